"""Shares: of the drawings that may be, those that have a pair."""

from math import gcd

from lotgivers.counting import counts, many
from lotgivers.errors import NoNumber
from lotgivers.knowing import facts_of, refuse_strangers


class Share:
    """A part of a whole, in lowest terms."""

    def __init__(self, part, whole):
        common = gcd(part, whole)
        self.part = part // common
        self.whole = whole // common

    def __eq__(self, other):
        return isinstance(other, Share) and self.part == other.part and self.whole == other.whole

    def __repr__(self):
        return f"Share({self.part}, {self.whole})"

    def __str__(self):
        return f"{self.part}/{self.whole}"

    def more_than(self, other):
        """Whether this share is the greater one."""
        return self.part * other.whole > other.part * self.whole


def share(circle, giver, taker, known=None):
    """The share of the drawings that keep and fit that have this pair."""
    # Who is no member is refused ahead of a circle that is too large, in what is known first.
    facts = facts_of(circle, known)
    refuse_strangers(circle, (giver, taker))
    whole = many(circle, facts)
    if whole == 0:
        raise NoNumber(0)
    having = {(one, other): ways for one, other, ways in counts(circle, facts)}
    return Share(having.get((giver, taker), 0), whole)
