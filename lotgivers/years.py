"""For how many years no pair need come twice, with drawings for these, and why not for one more.

For so many years each giver has so many takers, and each taker so many givers,
by pairs of which none is another one; and pairs that are so fall into
drawings. So takers are found for all givers, one more for each of them at a
time, for as long as that goes. Each giver and each taker is a bit here, and
sets of them are whole numbers as told in rows.py.
"""

from lotgivers.drawings import Drawing
from lotgivers.errors import NoMember, TooMany
from lotgivers.matching import matched
from lotgivers.rows import bits_of, each_of, names_in, rows_by_bit, rows_of

MOST = 16


def years(circle):
    """(drawings, givers, takers): as many drawings as can be, no pair in two, and who shows that there are no more."""
    if len(circle) > MOST:
        raise TooMany(len(circle))
    if len(circle) == 0:
        raise NoMember("")
    names = circle.names()
    may = rows_by_bit(rows_of(circle))
    had = {giver: 0 for giver in may}
    while True:
        more, givers, takers = one_more_each(may, had)
        if more is None:
            return drawings_in(names, had), names_in(names, givers), names_in(names, takers)
        had = more


def one_more_each(may, had):
    """(more, 0, 0): of each giver the takers had, and one more; (None, givers, takers) where that doesn't go.

    One of these givers gets none more, though they all exchange theirs; these
    takers are all whom they may take but haven't. Of these takers each has one
    giver more already, and all givers of each are among these givers.
    """
    more = dict(had)
    givers_of = turned(had)
    full = 0
    for giver in may:
        pairs, givers, takers = way_to_room(may, more, givers_of, full, giver)
        if not pairs:
            return None, givers, takers
        for one, taker in pairs:
            more[one] ^= taker
            givers_of[taker] ^= one
        full |= pairs[0][1]
    return more, 0, 0


def turned(had):
    """Of each taker the givers who have this one."""
    return {taker: sum([giver for giver, row in had.items() if row & taker]) for taker in had}


def way_to_room(may, had, givers_of, full, giver):
    """(pairs, givers, takers): pairs to be put in or, where they are in, left out, so that this giver has one more.

    The first of these pairs is that of the taker who has room, being none of
    the full ones. Givers and takers are all who were come to; there are no
    pairs where none of them has room.
    """
    gives_up = {giver: 0}
    wanted_by = {}
    takers = 0
    waiting = [giver]
    while waiting:
        asking = waiting.pop()
        new = may[asking] & ~had[asking] & ~takers
        takers |= new
        for taker in each_of(new):
            wanted_by[taker] = asking
            if not taker & full:
                return pairs_back(gives_up, wanted_by, taker), sum(list(gives_up)), takers
            for other in each_of(givers_of[taker]):
                if other not in gives_up:
                    gives_up[other] = taker
                    waiting.append(other)
    return [], sum(list(gives_up)), takers


def pairs_back(gives_up, wanted_by, room):
    """The pairs by which the taker with room was come to, back to the giver with whom it began."""
    pairs = []
    taker = room
    while taker:
        giver = wanted_by[taker]
        pairs.append((giver, taker))
        taker = gives_up[giver]
        if taker:
            pairs.append((giver, taker))
    return pairs


def drawings_in(names, had):
    """The drawings, rising by their pairs, into which these fall: all givers and takers have as many."""
    bits = bits_of(names)
    left = {name: row for name, row in zip(names, had.values())}
    drawings = []
    while any(list(left.values())):
        taker_of, _ = matched(left)
        drawings.append(Drawing(tuple(sorted(taker_of.items()))))
        left = {giver: row ^ bits[taker_of[giver]] for giver, row in left.items()}
    return tuple(sorted(drawings, key=lambda drawing: drawing.pairs))
