"""A look at what is shown where there is no drawing."""

from lotgivers.knowing import may_by
from lotgivers.shapes import are_names


def shows_few(circle, thing):
    """Whether this, of anything, is a lot of members who may take fewer than they are."""
    return is_lot(circle, may_by(circle, ()), thing)


def is_lot(circle, pairs, thing):
    """Whether this, of anything, is a lot of members who may take, by these pairs, fewer than they are."""
    if not are_names(thing) or not all([circle.has(name) for name in thing]):
        return False
    return len({taker for giver, taker in pairs if giver in thing}) < len(thing)
