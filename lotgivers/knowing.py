"""What is known of some pairs, and which pairs may be by it."""

from lotgivers.drawings import Drawing
from lotgivers.errors import NoMember


def refuse_strangers(circle, names):
    """Refuses the first of these things, of any kind, that is no member's name."""
    for name in names:
        if not circle.has(name):
            raise NoMember(name)


def facts_of(circle, known):
    """The knowledge as rows, () of None, none of them naming who is no member."""
    facts = () if known is None else known
    for giver, taker, _ in facts:
        refuse_strangers(circle, (giver, taker))
    return facts


def may_by(circle, known):
    """The pairs, rising, that may be by what is known."""
    facts = facts_of(circle, known)
    pairs = [(giver, taker) for giver in circle.names() for taker in circle.takers(giver)]
    return tuple([pair for pair in pairs if not any([bars_pair(fact, pair) for fact in facts])])


def bars_pair(fact, pair):
    """Whether this pair may not be where this fact is so."""
    giver, taker, holds = fact
    if (giver, taker) == pair:
        return not holds
    # A pair that holds leaves its giver no other taker, and its taker no other giver.
    return holds and (giver == pair[0] or taker == pair[1])


def fits(circle, pairs, thing):
    """Whether this, of anything, is a Drawing of the circle's names, all its pairs among these."""
    if not isinstance(thing, Drawing) or thing.names() != circle.names():
        return False
    return all([pair in pairs for pair in thing.pairs])


def without_pair(pairs, giver, taker):
    """These pairs but this one: a drawing of them shows that it need not be."""
    return tuple([pair for pair in pairs if pair != (giver, taker)])


def without_others(pairs, giver, taker):
    """These pairs but all others of this giver and of this taker: a drawing of them has this one."""
    return tuple([pair for pair in pairs if pair == (giver, taker) or (pair[0] != giver and pair[1] != taker)])
