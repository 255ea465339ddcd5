"""Looks at a ring of all, and at the rows by which there is none."""

from lotgivers.rows import bits_of, each_of, rows_by_bit, rows_of
from lotgivers.shapes import are_some_of, is_rising


def shows_ring(circle, thing):
    """Whether this, of anything, is all names, the least first, each of whom may take the next, the last the first."""
    names = circle.names()
    if not isinstance(thing, tuple) or not all([isinstance(part, str) for part in thing]):
        return False
    if names == () or tuple(sorted(thing)) != names or thing[0] != names[0]:
        return False
    rows = rows_of(circle)
    bits = bits_of(names)
    return all([rows[giver] & bits[taker] for giver, taker in zip(thing, (*thing[1:], thing[0]))])


def shows_no_ring(circle, thing):
    """Whether this, of anything, is rows that go on as far as may be, and none of which closes a ring."""
    names = circle.names()
    if names == () or not isinstance(thing, tuple) or not all([is_row(names, part) for part in thing]):
        return False
    if not is_rising(thing) or ((names[0],), names[0]) not in thing:
        return False
    may = rows_by_bit(rows_of(circle))
    bits = bits_of(names)
    rows = {(sum([bits[name] for name in come]), bits[last]): True for come, last in thing}
    return all([goes_on(may, rows, come, last) and not closes(may, come, last) for come, last in rows])


def is_row(names, thing):
    """Whether this, of anything, is a tuple of some names, rising, with the least of these, and the last of them."""
    if not isinstance(thing, tuple) or len(thing) != 2:
        return False
    come, last = thing
    return are_some_of(names, come) and names[0] in come and isinstance(last, str) and last in come


def goes_on(may, rows, come, last):
    """Whether the row with each one more is there, too, whom the last may take and who hasn't come."""
    return all([(come | taker, taker) in rows for taker in each_of(may[last] & ~come)])


def closes(may, come, last):
    """Whether all have come, and the last one may take the least."""
    return come == (1 << len(may)) - 1 and may[last] & 1 != 0
