"""A drawing that keeps, or the lot of givers by whom there is none."""

from lotgivers.drawings import Drawing
from lotgivers.errors import TooFew
from lotgivers.matching import matched


def some_drawing(circle):
    """A drawing that keeps; refused with a lot of givers where there is none."""
    may = {giver: circle.takers(giver) for giver in circle.names()}
    taker_of, lot = matched(may)
    if taker_of is None:
        raise TooFew(lot)
    return Drawing(tuple(sorted(taker_of.items())))
