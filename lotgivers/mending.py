"""Drawings mended where one fell out or came in, so that the fewest draw anew."""

from lotgivers.changing import with_one, without
from lotgivers.drawings import Drawing, keeps, likeness
from lotgivers.errors import NoDrawing, TooFew
from lotgivers.matching import hand_on
from lotgivers.rows import bits_of, rows_of
from lotgivers.shapes import are_pairs, is_rising


def lacking(circle, pairs):
    """(giver, taker): who gives to nobody, and to whom nobody gives."""
    return gap_in(rows_of(circle), pairs)


def gap_in(rows, pairs):
    """The giver and the taker that these pairs, of these rows, lack."""
    if not lack_one(rows, pairs):
        raise NoDrawing(likeness(pairs))
    givers = [giver for giver, _ in pairs]
    takers = [taker for _, taker in pairs]
    idle = [name for name in rows if name not in givers]
    left_over = [name for name in rows if name not in takers]
    return idle[0], left_over[0]


def lack_one(rows, thing):
    """Whether this, of anything, is pairs of these rows, one giver and one taker short of a drawing."""
    if not are_pairs(thing) or len(thing) != len(rows) - 1:
        return False
    if not is_rising([giver for giver, _ in thing]) or not is_rising(sorted([taker for _, taker in thing])):
        return False
    bits = bits_of(rows)
    return all([giver in rows and taker in bits and rows[giver] & bits[taker] for giver, taker in thing])


def mended(circle, pairs):
    """(drawing, anew, layers): a drawing that keeps, who draws anew in it, and why no fewer can."""
    rows = rows_of(circle)
    idle, left_over = gap_in(rows, pairs)
    giver_of = {taker: giver for giver, taker in pairs}
    layers, reached_by = layers_from(rows, giver_of, idle, left_over)
    if left_over not in reached_by:
        # All whom those in the layers may take are given to by others in the layers than the idle one.
        raise TooFew(tuple(sorted([giver for layer in layers for giver in layer])))
    taker_of = dict(pairs)
    hand_on(taker_of, giver_of, reached_by, left_over)
    drawing = Drawing(tuple(sorted(taker_of.items())))
    return drawing, drawn_anew(pairs, drawing), layers


def layers_from(rows, giver_of, idle, left_over):
    """(layers, reached_by), of those who would have to draw anew, until one may take the one left over.

    The idle giver is the first layer, and each next one those who give to whom
    the one ahead may take. Of each taker reached_by tells the giver who came to
    this one first.
    """
    bits = bits_of(rows)
    layers = []
    reached_by = {}
    layer = [idle]
    while layer and left_over not in reached_by:
        layers.append(tuple(sorted(layer)))
        behind = []
        for giver in layer:
            for taker, bit in bits.items():
                if rows[giver] & bit and taker not in reached_by:
                    reached_by[taker] = giver
                    behind.append(taker)
        layer = [giver_of[taker] for taker in behind if taker != left_over]
    return tuple(layers), reached_by


def drawn_anew(pairs, drawing):
    """The givers, rising, who have another taker in the drawing than in these pairs, or have none there."""
    former = dict(pairs)
    return tuple([giver for giver, taker in drawing.pairs if former.get(giver) != taker])


def fallen_out(circle, drawing, name):
    """The drawing mended where this member falls out."""
    refuse_broken(circle, drawing)
    smaller = without(circle, name)
    return mended(smaller, tuple([pair for pair in drawing.pairs if name not in pair]))


def come_in(circle, drawing, member):
    """The drawing mended where this member comes in."""
    refuse_broken(circle, drawing)
    return mended(with_one(circle, member), drawing.pairs)


def refuse_broken(circle, thing):
    """Refuses what, of anything, is no drawing that keeps."""
    if not isinstance(thing, Drawing) or not keeps(circle, thing):
        raise NoDrawing(likeness(thing))
