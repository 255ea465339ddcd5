"""A look at a mended drawing, and at the layers by which no fewer draw anew."""

from lotgivers.knowing import fits
from lotgivers.mending import drawn_anew, gap_in
from lotgivers.rows import bits_of, rows_of
from lotgivers.shapes import are_names


def shows_mended(circle, pairs, drawing, layers):
    """Whether these two, of anything, are a drawing that keeps and the layers that show it to be the nearest."""
    rows = rows_of(circle)
    idle, _ = gap_in(rows, pairs)
    if not are_layers(rows, layers) or not fits(rows, drawing):
        return False
    if len(layers) != len(drawn_anew(pairs, drawing)) or layers[0] != (idle,):
        return False
    return reach_no_further(rows, pairs, layers)


def are_layers(rows, thing):
    """Whether this, of anything, is a tuple of rising tuples of members' names, none empty, none in two."""
    if not isinstance(thing, tuple) or not all([are_names(layer) and layer != () for layer in thing]):
        return False
    names = [name for layer in thing for name in layer]
    return len(set(names)) == len(names) and all([name in rows for name in names])


def reach_no_further(rows, pairs, layers):
    """Whether all whom each layer but the last may take are given to, in pairs, by layers up to the next one."""
    bits = bits_of(rows)
    # Who is left over is given to by nobody, so these may not take that one either.
    taken_by = {giver: bits[taker] for giver, taker in pairs}
    given = 0
    for layer, next_one in zip(layers, layers[1:]):
        for giver in (*layer, *next_one):
            given |= taken_by.get(giver, 0)
        if any([rows[giver] & ~given for giver in layer]):
            return False
    return True
