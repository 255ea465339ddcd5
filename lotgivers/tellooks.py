"""A look at what is shown of a pair by what is known."""

from lotgivers.fewlooks import is_lot
from lotgivers.knowing import fits, may_by, refuse_strangers, without_others, without_pair


def shows_tells(circle, known, giver, taker, thing):
    """Whether this, of anything, shows of the pair what its word says."""
    pairs = may_by(circle, known)
    refuse_strangers(circle, (giver, taker))
    if not isinstance(thing, tuple) or not 2 <= len(thing) <= 3 or not isinstance(thing[0], str):
        return False
    if len(thing) == 3:
        return thing[0] == "open" and shows_open(circle, pairs, (giver, taker), thing[1:])
    pairs_of = {
        "none": pairs,
        "sure": without_pair(pairs, giver, taker),
        "never": without_others(pairs, giver, taker),
    }
    return thing[0] in pairs_of and is_lot(circle, pairs_of[thing[0]], thing[1])


def shows_open(circle, pairs, pair, things):
    """Whether these two are drawings of these pairs, of which the first has the pair, the second not."""
    if not all([fits(circle, pairs, thing) for thing in things]):
        return False
    drawing, other = things
    return pair in drawing.pairs and pair not in other.pairs
