"""What one who knows some pairs can tell of another one."""

from lotgivers.finding import drawing_or_lot
from lotgivers.knowing import may_by, refuse_strangers, without_others, without_pair


def tells(circle, known, giver, taker):
    """Whether the pair is sure, never or open by what is known, or no drawing fits, with what shows it."""
    pairs = may_by(circle, known)
    refuse_strangers(circle, (giver, taker))
    drawing, lot = drawing_by(circle, pairs)
    if drawing is None:
        return "none", lot
    other, lot = drawing_by(circle, without_pair(pairs, giver, taker))
    if other is None:
        return "sure", lot
    drawing, lot = drawing_by(circle, without_others(pairs, giver, taker))
    if drawing is None:
        return "never", lot
    return "open", drawing, other


def drawing_by(circle, pairs):
    """(drawing, ()), of these pairs alone; (None, lot), of those too many for theirs, where there is none."""
    may = {name: [] for name in circle.names()}
    for giver, taker in pairs:
        may[giver].append(taker)
    return drawing_or_lot(may)
