"""Givers matched with takers, or the givers who are too many for theirs.

Here may is a dict that tells of each giver in turn those whom this one
may take; nobody is matched yet with more than one.
"""


def matched(may):
    """(taker_of, ()), a dict of each giver's own taker; or (None, lot), of whom some go without."""
    taker_of = {}
    giver_of = {}
    for giver in may:
        reached_by = reached(may, giver_of, giver)
        free = [taker for taker in reached_by if taker not in giver_of]
        if not free:
            # All whom these may take are reached, and each of those is given to by another of these.
            return None, tuple(sorted([giver, *[giver_of[taker] for taker in reached_by]]))
        hand_on(taker_of, giver_of, reached_by, free[0])
    return taker_of, ()


def reached(may, giver_of, giver):
    """Who could be freed for this giver, as a dict of each such taker and the giver who would take them."""
    reached_by = {}
    waiting = [giver]
    while waiting:
        asking = waiting.pop()
        for taker in may[asking]:
            if taker not in reached_by:
                reached_by[taker] = asking
                if taker in giver_of:
                    waiting.append(giver_of[taker])
    return reached_by


def hand_on(taker_of, giver_of, reached_by, free):
    """Gives the free taker to who reached them, whose own taker to who reached that one, and so on."""
    taker = free
    while taker is not None:
        giver = reached_by[taker]
        former = taker_of.get(giver)
        taker_of[giver] = taker
        giver_of[taker] = giver
        taker = former
