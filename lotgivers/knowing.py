"""What is known of some pairs, and which pairs may be by it."""

from lotgivers.drawings import Drawing
from lotgivers.errors import NoMember
from lotgivers.names import is_name
from lotgivers.rows import bits_of, rows_of


def refuse_strangers(circle, things):
    """Refuses the first of these things, of any kind, that is no member's name."""
    names = circle.names()
    for thing in things:
        if not is_name(thing) or thing not in names:
            raise NoMember(thing)


def facts_of(circle, known):
    """The knowledge as rows, () of None, none of them naming who is no member."""
    facts = () if known is None else known
    refuse_strangers(circle, [name for giver, taker, _ in facts for name in (giver, taker)])
    return facts


def may_by(circle, known):
    """The pairs, rising, that may be by what is known."""
    rows = rows_by(circle, facts_of(circle, known))
    bits = bits_of(rows)
    return tuple([(giver, taker) for giver, row in rows.items() for taker, bit in bits.items() if row & bit])


def rows_by(circle, facts):
    """The rows (told in rows.py) of the pairs that may be by what is known."""
    rows = rows_of(circle)
    bits = bits_of(rows)
    givers_left = {}
    for giver, taker, holds in facts:
        if holds:
            rows[giver] &= bits[taker]
            givers_left[taker] = givers_left.get(taker, bits[giver]) & bits[giver]
        else:
            rows[giver] &= ~bits[taker]
    # A pair that holds leaves its taker no other giver; two of one taker leave none at all.
    for taker, left in givers_left.items():
        for giver, bit in bits.items():
            if not left & bit:
                rows[giver] &= ~bits[taker]
    return rows


def fits(rows, thing):
    """Whether this, of anything, is a Drawing of the givers of these rows, all its pairs among theirs."""
    if not isinstance(thing, Drawing) or thing.names() != tuple(rows):
        return False
    bits = bits_of(rows)
    return all([rows[giver] & bits[taker] for giver, taker in thing.pairs])


def without_pair(rows, giver, taker):
    """These rows without this pair: a drawing of them shows that it need not be."""
    return {**rows, giver: rows[giver] & ~bits_of(rows)[taker]}


def without_others(rows, giver, taker):
    """These rows without all others of this giver and of this taker: a drawing of them has this pair."""
    bit = bits_of(rows)[taker]
    return {one: row & bit if one == giver else row & ~bit for one, row in rows.items()}
