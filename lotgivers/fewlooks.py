"""A look at what is shown where there is no drawing."""

from lotgivers.shapes import are_names


def shows_few(circle, thing):
    """Whether this, of anything, is a lot of members who may take fewer than they are."""
    if not are_names(thing) or not all([circle.has(name) for name in thing]):
        return False
    return len({taker for giver in thing for taker in circle.takers(giver)}) < len(thing)
