"""A look at the drawings of years, and at who shows that there are no more."""

from lotgivers.drawings import Drawing
from lotgivers.knowing import fits
from lotgivers.rows import bits_of, how_many, rows_of
from lotgivers.shapes import are_some_of, is_rising


def shows_years(circle, drawings, givers, takers):
    """Whether these, of anything, are drawings that keep, no pair in two, and who shows that there are no more."""
    names = circle.names()
    if not are_some_of(names, givers) or not are_some_of(names, takers) or not are_rising_drawings(drawings):
        return False
    rows = rows_of(circle)
    if not all([fits(rows, drawing) for drawing in drawings]) or not are_apart(drawings):
        return False
    return pairs_out(rows, givers, takers) < (len(drawings) + 1) * (len(givers) - len(takers))


def are_rising_drawings(thing):
    """Whether this, of anything, is a tuple of Drawings, rising by their pairs."""
    if not isinstance(thing, tuple) or not all([isinstance(part, Drawing) for part in thing]):
        return False
    return is_rising([drawing.pairs for drawing in thing])


def are_apart(drawings):
    """Whether no pair is in two of these drawings."""
    pairs = [pair for drawing in drawings for pair in drawing.pairs]
    return len(set(pairs)) == len(pairs)


def pairs_out(rows, givers, takers):
    """How many pairs of these rows are of one of the givers with one that isn't of the takers."""
    bits = bits_of(rows)
    inside = sum([bits[taker] for taker in takers])
    return sum([how_many(rows[giver] & ~inside) for giver in givers])
