"""How many drawings keep and fit what is known, and which one has which number.

Nobody goes through the drawings, of which ten members have more than a
million. Givers take one after the other, in their order, and what matters of
those ahead is only whom they have taken, all together: a set of takers, here a
whole number in which the bit of each of them is set.
"""

from lotgivers.drawings import Drawing, likeness
from lotgivers.errors import NoDrawing, NoNumber, TooMany
from lotgivers.knowing import facts_of, fits, rows_by
from lotgivers.rows import bits_of
from lotgivers.shapes import is_whole

MOST = 10


def many(circle, known=None):
    """How many drawings keep and fit."""
    return total_of(table_of(circle, known))


def kth(circle, number, known=None):
    """Of the drawings that keep and fit, rising by their pairs, the one with this number, from 0."""
    table = table_of(circle, known)
    if not is_whole(number) or not 0 <= number < total_of(table):
        raise NoNumber(number)
    return numbered(table, number)


def number_of(circle, drawing, known=None):
    """The number of this drawing among those that keep and fit."""
    rows = rows_of_few(circle, known)
    if not fits(rows, drawing):
        raise NoDrawing(likeness(drawing))
    table = table_by(rows)
    number = 0
    free = all_of(table)
    for (giver, row), behind in zip(table.items(), ways_behind(table)):
        own = row[drawing.taker_of(giver)]
        number += sum([ways_with(behind, free, bit) for bit in row.values() if bit < own])
        free ^= own
    return number


def drawn(circle, lot, known=None):
    """The drawing that this lot, a whole number from 0, falls on."""
    table = table_of(circle, known)
    total = total_of(table)
    if total == 0 or not is_whole(lot) or lot < 0:
        raise NoNumber(lot)
    return numbered(table, lot % total)


def counts(circle, known=None):
    """Each pair that may be by what is known, with how many drawings have it."""
    table = table_of(circle, known)
    everybody = all_of(table)
    rows = []
    for (giver, row), ahead, behind in zip(table.items(), ways_ahead(table), ways_behind(table)):
        for taker, bit in row.items():
            having = [ways * ways_with(behind, everybody ^ taken, bit) for taken, ways in ahead.items()]
            rows.append((giver, taker, sum(having)))
    return tuple(rows)


def rows_of_few(circle, known):
    """The rows (told in rows.py) by what is known, of a circle that has no more members than can be asked about."""
    facts = facts_of(circle, known)
    if len(circle) > MOST:
        raise TooMany(len(circle))
    return rows_by(circle, facts)


def table_of(circle, known):
    """The table of such rows."""
    return table_by(rows_of_few(circle, known))


def table_by(rows):
    """Of each giver, rising, a dict of those whom this one may take, rising, and their bits."""
    bits = bits_of(rows)
    return {giver: {taker: bit for taker, bit in bits.items() if row & bit} for giver, row in rows.items()}


def all_of(table):
    """The set of all takers."""
    return (1 << len(table)) - 1


def total_of(table):
    """In how many ways all givers take all takers."""
    return ways_of(list(table.values()))[-1].get(all_of(table), 0)


def ways_of(rows):
    """In how many ways the first 0, 1, .. of these rows take each set: a dict for each of these numbers."""
    steps = [{0: 1}]
    for row in rows:
        step = {}
        for taken, ways in steps[-1].items():
            for bit in row.values():
                if not taken & bit:
                    step[taken | bit] = step.get(taken | bit, 0) + ways
        steps.append(step)
    return steps


def ways_ahead(table):
    """For each giver, in how many ways those ahead take each set."""
    return ways_of(list(table.values()))[:-1]


def ways_behind(table):
    """For each giver, in how many ways those behind take each set."""
    return ways_of(list(table.values())[::-1])[:-1][::-1]


def ways_with(behind, free, bit):
    """In how many ways those behind take the free ones without this one, none where this one isn't free."""
    return behind.get(free ^ bit, 0) if free & bit else 0


def numbered(table, number):
    """The drawing with this number, of which there is one."""
    pairs = []
    left = number
    free = all_of(table)
    for (giver, row), behind in zip(table.items(), ways_behind(table)):
        for taker, bit in row.items():
            ways = ways_with(behind, free, bit)
            if left < ways:
                pairs.append((giver, taker))
                free ^= bit
                break
            left -= ways
    return Drawing(tuple(pairs))
