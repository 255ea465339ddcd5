"""A look at what is shown where there is no drawing."""

from lotgivers.rows import rows_of, too_few
from lotgivers.shapes import are_some_of


def shows_few(circle, thing):
    """Whether this, of anything, is a lot of members who may take fewer than they are."""
    # Of none there are never fewer; that is told at once, as is what is no lot at all.
    return are_some_of(circle.names(), thing) and thing != () and too_few(rows_of(circle), thing)
