"""What is known of some pairs, and which pairs may be by it."""

from lotgivers.errors import NoMember


def facts_of(circle, known):
    """The knowledge as rows, () of None, none of them naming who is no member."""
    facts = () if known is None else known
    for giver, taker, _ in facts:
        for name in (giver, taker):
            if not circle.has(name):
                raise NoMember(name)
    return facts


def may_by(circle, known):
    """The pairs, rising, that may be by what is known."""
    facts = facts_of(circle, known)
    pairs = [(giver, taker) for giver in circle.names() for taker in circle.takers(giver)]
    return tuple([pair for pair in pairs if not any([bars_pair(fact, pair) for fact in facts])])


def bars_pair(fact, pair):
    """Whether this pair may not be where this fact is so."""
    giver, taker, holds = fact
    if (giver, taker) == pair:
        return not holds
    # A pair that holds leaves its giver no other taker, and its taker no other giver.
    return holds and (giver == pair[0] or taker == pair[1])
