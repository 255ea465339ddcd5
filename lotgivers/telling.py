"""What one who knows some pairs can tell of another one."""

from lotgivers.finding import drawing_or_lot
from lotgivers.knowing import facts_of, refuse_strangers, rows_by, without_others, without_pair


def tells(circle, known, giver, taker):
    """Whether the pair is sure, never or open by what is known, or no drawing fits, with what shows it."""
    facts = facts_of(circle, known)
    refuse_strangers(circle, (giver, taker))
    rows = rows_by(circle, facts)
    drawing, lot = drawing_or_lot(rows)
    if drawing is None:
        return "none", lot
    other, lot = drawing_or_lot(without_pair(rows, giver, taker))
    if other is None:
        return "sure", lot
    drawing, lot = drawing_or_lot(without_others(rows, giver, taker))
    if drawing is None:
        return "never", lot
    return "open", drawing, other
