"""One ring of all, or by which rows there is none, and how many rings there are.

A row is who has come, in a way on which each may take the next one, from the
least of all on, and who is the last of them. Nobody goes through the ways, but
through the rows, in each of which many ways end. Each member is a bit here,
the least of all the lowest, and who has come is a whole number as told in
rows.py.
"""

from lotgivers.errors import NoMember, TooMany
from lotgivers.rows import bits_of, each_of, names_in, rows_by_bit, rows_of

MOST = 8
LEAST = 1


def ring(circle):
    """("ring", names), each of whom may take the next one, the last one the first; or ("none", rows)."""
    may = may_of_few(circle)
    steps = steps_of(may)
    closing = closing_of(may, steps)
    names = circle.names()
    if closing == []:
        return "none", named(names, steps)
    name_of = names_by_bit(names)
    return "ring", tuple([name_of[bit] for bit in way_to(may, steps, closing[0])])


def rings(circle):
    """How many rings there are."""
    may = may_of_few(circle)
    steps = steps_of(may)
    return sum([steps[-1][row] for row in closing_of(may, steps)])


def may_of_few(circle):
    """Of each member those whom this one may take, of a circle of not too many members, nor of none."""
    if len(circle) > MOST:
        raise TooMany(len(circle))
    if len(circle) == 0:
        raise NoMember("")
    return rows_by_bit(rows_of(circle))


def steps_of(may):
    """For 1, 2, .. members that have come, in how many ways there is each row of so many: dicts."""
    steps = [{(LEAST, LEAST): 1}]
    while len(steps) < len(may):
        step = {}
        for (come, last), ways in steps[-1].items():
            for taker in each_of(may[last] & ~come):
                row = (come | taker, taker)
                step[row] = step.get(row, 0) + ways
        steps.append(step)
    return steps


def closing_of(may, steps):
    """The rows of all members whose last one may take the least."""
    return [(come, last) for come, last in steps[-1] if may[last] & LEAST]


def way_to(may, steps, row):
    """Who comes one behind the other, from the least on, where it ends with this row of all."""
    come, last = row
    way = [last]
    for step in steps[:-1][::-1]:
        come ^= last
        ahead = [one for one in each_of(come) if (come, one) in step and may[one] & last]
        last = ahead[0]
        way.append(last)
    return way[::-1]


def names_by_bit(names):
    """Each bit with the name whose bit it is."""
    return {bit: name for name, bit in bits_of(names).items()}


def named(names, steps):
    """All rows, rising, by their names."""
    name_of = names_by_bit(names)
    rows = [(names_in(names, come), name_of[last]) for step in steps for come, last in step]
    return tuple(sorted(rows))
