"""A look at what is shown of a pair by what is known."""

from lotgivers.knowing import facts_of, fits, refuse_strangers, rows_by, without_others, without_pair
from lotgivers.rows import too_few
from lotgivers.shapes import are_some_of

WITH_LOT = ("none", "sure", "never")


def shows_tells(circle, known, giver, taker, thing):
    """Whether this, of anything, shows of the pair what its word says."""
    facts = facts_of(circle, known)
    refuse_strangers(circle, (giver, taker))
    # What has no such form is told at once, ahead of all that takes long.
    if not isinstance(thing, tuple) or not 2 <= len(thing) <= 3 or not isinstance(thing[0], str):
        return False
    if len(thing) == 3:
        return thing[0] == "open" and shows_open(rows_by(circle, facts), (giver, taker), thing[1:])
    if thing[0] not in WITH_LOT or not are_some_of(circle.names(), thing[1]):
        return False
    return too_few(rows_for(thing[0], rows_by(circle, facts), giver, taker), thing[1])


def rows_for(word, rows, giver, taker):
    """These rows, or what of them the lot is counted by that shows this word of the pair."""
    if word == "sure":
        return without_pair(rows, giver, taker)
    if word == "never":
        return without_others(rows, giver, taker)
    return rows


def shows_open(rows, pair, things):
    """Whether these two are drawings of these rows, of which the first has the pair, the second not."""
    if not all([fits(rows, thing) for thing in things]):
        return False
    drawing, other = things
    return pair in drawing.pairs and pair not in other.pairs
