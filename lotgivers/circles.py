"""Circles: who is in, of what house, and who may not take whom."""

from lotgivers.errors import NoMember
from lotgivers.names import is_name
from lotgivers.shapes import are_pairs, is_rising, is_whole


class Circle:
    """Members, bars between them, the drawings of past years, and how many of these bar."""

    def __init__(self, members, bars=None, past=None, gap=1):
        self.members = members
        self.bars = () if bars is None else bars
        self.past = () if past is None else past
        self.gap = gap

    def __eq__(self, other):
        return (
            isinstance(other, Circle)
            and self.members == other.members
            and self.bars == other.bars
            and self.past == other.past
            and self.gap == other.gap
        )

    def __len__(self):
        return len(self.members)

    def __repr__(self):
        return f"Circle({len(self.members)})"

    def __str__(self):
        return "\n".join(circle_rows(self.members, self.bars, self.past, self.gap))

    def names(self):
        """The members' names, rising."""
        return tuple([name for name, _ in self.members])

    def has(self, name):
        """Whether this, of anything, is a member's name."""
        return is_name(name) and name in self.names()

    def house_of(self, name):
        """The house of this member, an empty text where there is none."""
        # Things that are no names may be == to one.
        if is_name(name):
            for one, house in self.members:
                if one == name:
                    return house
        raise NoMember(name)

    def reason(self, giver, taker):
        """The first reason why this one may not take that one, None where there is none."""
        house = self.house_of(giver)
        other_house = self.house_of(taker)
        # Bars rise: the pair is one of them only where it stands in its own place.
        place = place_of(self.bars, (giver, taker))
        houses = {giver: house, taker: other_house}
        return reason_of(giver, taker, houses, self.bars[place:place + 1], last_of(self.past, self.gap))

    def barred(self):
        """All pairs of the bars and of the last gap years."""
        return [*self.bars, *[pair for year in last_of(self.past, self.gap) for pair in year]]

    def takers(self, giver):
        """The names of those whom this one may take, rising."""
        house = self.house_of(giver)
        gone = {taker: True for one, taker in self.barred() if one == giver}
        return others_of(self.members, giver, house, gone)

    def givers(self, taker):
        """The names of those who may take this one, rising."""
        house = self.house_of(taker)
        gone = {giver: True for giver, one in self.barred() if one == taker}
        return others_of(self.members, taker, house, gone)


def reason_of(giver, taker, houses, bars, years):
    """The first reason against this pair, by the members' houses, and bars and years to be looked into."""
    if giver == taker:
        return "self"
    if houses[giver] != "" and houses[giver] == houses[taker]:
        return "house"
    if (giver, taker) in bars:
        return "bar"
    for year in years:
        if (giver, taker) in year:
            return "past"
    return None


def others_of(members, name, house, gone):
    """The names of the members, rising, but this one, who is of this house, its other members, and those gone."""
    return tuple([
        other for other, other_house in members
        if other != name and (house == "" or other_house != house) and other not in gone
    ])


def place_of(pairs, pair):
    """The place at which this pair stands, or would stand, in these, which rise."""
    low = 0
    high = len(pairs)
    while low < high:
        middle = (low + high) // 2
        if pairs[middle] < pair:
            low = middle + 1
        else:
            high = middle
    return low


def last_of(years, gap):
    """The last gap years, all of them where there are fewer."""
    # Counted from the front: years[-gap:] would be all of them for a gap of 0.
    return years[max(0, len(years) - gap):]


def circle_rows(members, bars, past, gap):
    """The rows of the text of a circle of these."""
    bar_rows = [f"bar {giver} {taker}" for giver, taker in bars]
    return [f"circle {gap}", *member_rows(members), *bar_rows, *year_rows(past)]


def member_rows(members):
    """A row for each member, without a house's word where there is none."""
    return [f"member {name}" if house == "" else f"member {name} {house}" for name, house in members]


def year_rows(past):
    """For each year a row of its own, and behind it one for each pair."""
    rows = []
    for year in past:
        rows.append("year")
        rows.extend([f"  {giver} > {taker}" for giver, taker in year])
    return rows


def is_circle(members, bars, past, gap):
    """Whether a circle is so made; each of these may be anything."""
    return (
        are_members(members)
        and (bars is None or are_pairs(bars))
        and (past is None or are_years(past))
        and is_gap(gap)
    )


def are_members(thing):
    """Whether this, of anything, is a rising tuple of members, no name twice."""
    if not isinstance(thing, tuple) or not all([is_member(part) for part in thing]):
        return False
    # Names that rise by themselves are no name twice, too.
    return is_rising([name for name, _ in thing])


def is_member(thing):
    """Whether this, of anything, is a tuple of a name and a house, or an empty text for none."""
    if not isinstance(thing, tuple) or len(thing) != 2:
        return False
    name, house = thing
    return is_name(name) and isinstance(house, str) and (house == "" or is_name(house))


def are_years(thing):
    """Whether this, of anything, is a tuple of years."""
    return isinstance(thing, tuple) and all([are_pairs(part) for part in thing])


def is_gap(thing):
    """Whether this, of anything, is a whole number from 0 of at most thirty figures."""
    return is_whole(thing) and 0 <= thing < 10 ** 30
