"""Drawings: who gives to whom, and whether a circle allows it."""

from lotgivers.circles import last_of, reason_of
from lotgivers.errors import NoDrawing, NoMember
from lotgivers.names import is_name
from lotgivers.shapes import are_pairs, is_rising


class Drawing:
    """Pairs of which each giver is given to once."""

    def __init__(self, pairs):
        if not are_drawing(pairs):
            raise NoDrawing(pairs)
        self.pairs = pairs

    def __eq__(self, other):
        return isinstance(other, Drawing) and self.pairs == other.pairs

    def __len__(self):
        return len(self.pairs)

    def __repr__(self):
        return f"Drawing({len(self.pairs)})"

    def __str__(self):
        return "\n".join([f"{giver} > {taker}" for giver, taker in self.pairs])

    def names(self):
        """The names of those who give, and are given to, rising."""
        return tuple([giver for giver, _ in self.pairs])

    def taker_of(self, name):
        """The one to whom this one gives."""
        if not is_name(name) or name not in self.names():
            raise NoMember(name)
        return dict(self.pairs)[name]

    def giver_of(self, name):
        """The one who gives to this one."""
        if not is_name(name) or name not in self.names():
            raise NoMember(name)
        return {taker: giver for giver, taker in self.pairs}[name]

    def chains(self):
        """The rings in which they give, each from its least name on."""
        taker_of = dict(self.pairs)
        chains = [chain_from(taker_of, name) for name in self.names()]
        return tuple([chain for chain in chains if chain[0] == min(chain)])


def are_drawing(thing):
    """Whether this, of anything, is the pairs of a drawing."""
    if not are_pairs(thing):
        return False
    givers = [giver for giver, _ in thing]
    return is_rising(givers) and sorted([taker for _, taker in thing]) == givers


def likeness(thing):
    """Another Drawing like this one; a thing of any other kind as it is."""
    return Drawing(thing.pairs) if isinstance(thing, Drawing) else thing


def chain_from(taker_of, name):
    """The names from this one on, each giving to the next, until one gives to the first."""
    chain = [name]
    while taker_of[chain[-1]] != name:
        chain.append(taker_of[chain[-1]])
    return tuple(chain)


def keeps(circle, drawing):
    """Whether the drawing is one of the circle's names, and all its pairs may be."""
    return circle.names() == drawing.names() and reasons_against(circle, drawing.pairs) == ()


def broken(circle, drawing):
    """The pairs of the drawing that may not be in the circle, each with its reason."""
    strangers = sorted(set(circle.names()) ^ set(drawing.names()))
    if strangers:
        raise NoMember(strangers[0])
    return reasons_against(circle, drawing.pairs)


def reasons_against(circle, pairs):
    """Those of these pairs, of members, that may not be, each with its reason."""
    houses = dict(circle.members)
    # As keys, bars and years are looked into for all pairs in one go.
    bars = {pair: True for pair in circle.bars}
    years = [{pair: True for year in last_of(circle.past, circle.gap) for pair in year}]
    rows = [(giver, taker, reason_of(giver, taker, houses, bars, years)) for giver, taker in pairs]
    return tuple([row for row in rows if row[2] is not None])
