"""A drawing that keeps, or the lot of givers by whom there is none."""

from lotgivers.drawings import Drawing
from lotgivers.errors import TooFew
from lotgivers.matching import matched
from lotgivers.rows import rows_of


def some_drawing(circle):
    """A drawing that keeps; refused with a lot of givers where there is none."""
    drawing, lot = drawing_or_lot(rows_of(circle))
    if drawing is None:
        raise TooFew(lot)
    return drawing


def drawing_or_lot(rows):
    """(drawing, ()), of these rows' pairs alone; (None, lot), of givers too many for theirs, where there is none."""
    taker_of, lot = matched(rows)
    if taker_of is None:
        return None, lot
    return Drawing(tuple(sorted(taker_of.items()))), ()
