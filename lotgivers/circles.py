"""Circles: who is in, of what house, and who may not take whom."""

from lotgivers.errors import NoMember
from lotgivers.names import is_name
from lotgivers.shapes import are_pairs, is_rising, is_whole


class Circle:
    """Members, bars between them, the drawings of past years, and how many of these bar."""

    def __init__(self, members, bars=None, past=None, gap=1):
        self.members = members
        self.bars = () if bars is None else bars
        self.past = () if past is None else past
        self.gap = gap

    def __eq__(self, other):
        return (
            isinstance(other, Circle)
            and self.members == other.members
            and self.bars == other.bars
            and self.past == other.past
            and self.gap == other.gap
        )

    def __len__(self):
        return len(self.members)

    def __repr__(self):
        return f"Circle({len(self.members)})"

    def __str__(self):
        rows = [
            f"circle {self.gap}",
            *member_rows(self.members),
            *[f"bar {giver} {taker}" for giver, taker in self.bars],
            *year_rows(self.past),
        ]
        return "\n".join(rows)

    def names(self):
        """The members' names, rising."""
        return tuple([name for name, _ in self.members])

    def has(self, name):
        """Whether this, of anything, is a member's name."""
        return is_name(name) and name in self.names()

    def house_of(self, name):
        """The house of this member, an empty text where there is none."""
        if not self.has(name):
            raise NoMember(name)
        return dict(self.members)[name]

    def reason(self, giver, taker):
        """The first reason why this one may not take that one, None where there is none."""
        house = self.house_of(giver)
        other_house = self.house_of(taker)
        pair = (giver, taker)
        if giver == taker:
            return "self"
        if house != "" and house == other_house:
            return "house"
        if pair in self.bars:
            return "bar"
        if any([pair in year for year in last_of(self.past, self.gap)]):
            return "past"
        return None

    def takers(self, giver):
        """The names of those whom this one may take, rising."""
        if not self.has(giver):
            raise NoMember(giver)
        return tuple([name for name in self.names() if self.reason(giver, name) is None])

    def givers(self, taker):
        """The names of those who may take this one, rising."""
        if not self.has(taker):
            raise NoMember(taker)
        return tuple([name for name in self.names() if self.reason(name, taker) is None])


def last_of(years, gap):
    """The last gap years, all of them where there are fewer."""
    # Counted from the front: years[-gap:] would be all of them for a gap of 0.
    return years[max(0, len(years) - gap):]


def member_rows(members):
    """A row for each member, without a house's word where there is none."""
    return [f"member {name}" if house == "" else f"member {name} {house}" for name, house in members]


def year_rows(past):
    """For each year a row of its own, and behind it one for each pair."""
    rows = []
    for year in past:
        rows.append("year")
        rows.extend([f"  {giver} > {taker}" for giver, taker in year])
    return rows


def is_circle(members, bars, past, gap):
    """Whether a circle is so made; each of these may be anything."""
    return (
        are_members(members)
        and (bars is None or are_pairs(bars))
        and (past is None or are_years(past))
        and is_gap(gap)
    )


def are_members(thing):
    """Whether this, of anything, is a rising tuple of members, no name twice."""
    if not isinstance(thing, tuple) or not all([is_member(part) for part in thing]):
        return False
    # Names that rise by themselves are no name twice, too.
    return is_rising([name for name, _ in thing])


def is_member(thing):
    """Whether this, of anything, is a tuple of a name and a house, or an empty text for none."""
    if not isinstance(thing, tuple) or len(thing) != 2:
        return False
    name, house = thing
    return is_name(name) and isinstance(house, str) and (house == "" or is_name(house))


def are_years(thing):
    """Whether this, of anything, is a tuple of years."""
    return isinstance(thing, tuple) and all([are_pairs(part) for part in thing])


def is_gap(thing):
    """Whether this, of anything, is a whole number from 0 of at most thirty figures."""
    return is_whole(thing) and 0 <= thing < 10 ** 30
