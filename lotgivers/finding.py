"""A drawing that keeps, or the lot of givers by whom there is none."""

from lotgivers.drawings import Drawing
from lotgivers.errors import TooFew
from lotgivers.matching import matched


def some_drawing(circle):
    """A drawing that keeps; refused with a lot of givers where there is none."""
    drawing, lot = drawing_or_lot({giver: circle.takers(giver) for giver in circle.names()})
    if drawing is None:
        raise TooFew(lot)
    return drawing


def drawing_or_lot(may):
    """(drawing, ()), of givers who may take these takers; (None, lot), too many for theirs, where there is none."""
    taker_of, lot = matched(may)
    if taker_of is None:
        return None, lot
    return Drawing(tuple(sorted(taker_of.items()))), ()
