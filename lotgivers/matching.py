"""Givers matched with takers, or the givers who are too many for theirs.

Rows are as told in rows.py; nobody is matched yet with more than one.
"""


def matched(rows):
    """(taker_of, ()), a dict of each giver's own taker; or (None, lot), of whom some go without."""
    taken_by = {}
    giver_of = {}
    taken = 0
    for giver, row in rows.items():
        free = row & ~taken
        # The lowest bit of those set, none of none.
        bit = free & -free
        if bit:
            taken_by[giver] = bit
            giver_of[bit] = giver
        else:
            reached_by, bit = way_to_free(rows, giver_of, taken, giver)
            if not bit:
                # All whom these may take are reached, and each of those is given to by another of these.
                return None, tuple(sorted([giver, *[giver_of[one] for one in reached_by]]))
            hand_on(taken_by, giver_of, reached_by, bit)
        taken |= bit
    names = list(rows)
    return {giver: names[bit.bit_length() - 1] for giver, bit in taken_by.items()}, ()


def way_to_free(rows, giver_of, taken, giver):
    """(reached_by, free): the first free taker that could be freed for this giver, 0 where there is none.

    Of each taker on the way, a bit, reached_by tells the giver who would take
    this one; where no taker is free, of all who could be freed.
    """
    reached_by = {}
    seen = 0
    waiting = [giver]
    while waiting:
        asking = waiting.pop()
        new = rows[asking] & ~seen
        seen |= new
        free = new & ~taken
        if free:
            bit = free & -free
            reached_by[bit] = asking
            return reached_by, bit
        while new:
            bit = new & -new
            new ^= bit
            reached_by[bit] = asking
            waiting.append(giver_of[bit])
    return reached_by, 0


def hand_on(taker_of, giver_of, reached_by, free):
    """Gives the free taker to who reached them, whose own taker to who reached that one, and so on."""
    taker = free
    while taker is not None:
        giver = reached_by[taker]
        former = taker_of.get(giver)
        taker_of[giver] = taker
        giver_of[taker] = giver
        taker = former
