"""What several tests hand in: things of all kinds, and small circles."""

import random
import unittest
from itertools import combinations, permutations

from lotgivers.circles import Circle
from lotgivers.drawings import Drawing
from lotgivers.errors import LotError


class Odd:
    """Says it is == to everything."""

    def __eq__(self, other):
        return True

    __hash__ = None


class Touchy:
    """Doesn't let itself be compared or measured."""

    def __eq__(self, other):
        raise RuntimeError("compared")

    def __len__(self):
        raise RuntimeError("measured")

    def __bool__(self):
        raise RuntimeError("asked for its truth")

    __hash__ = None


def deep(kind):
    """Such a thing in such a thing, thirty deep."""
    thing = kind()
    for _ in range(29):
        thing = {"a": thing} if kind is dict else kind([thing])
    return thing


def oddities():
    """Things of all kinds, no names and no tuples of names or of pairs; new ones at each call."""
    return [
        None, True, False, 0, 1, -1, 7, 10 ** 59,
        "", "Anna", "anna ", " anna", "an na", "anna\n", "\n", "a1", "a-b", "_", "abcdefghijklm", "a" * 4000,
        b"", b"anna", [], ["anna"], [["anna", "bert"]], [("anna", "bert")],
        {}, {"anna": "bert"}, {("anna", "bert"): [1]}, set(), {"anna"}, frozenset(["anna"]), range(3),
        (None,), ([],), ({},), (1, True), ("anna", None), (None, "anna"), ("anna", "Bert"), ("anna", ""),
        (("anna",),), (("anna", "bert", "cleo"),), (["anna", "bert"],), (("anna", "Bert"),), (("anna", 1),),
        len, str, Circle, object(), Odd(), Touchy(), (Odd(), Odd()), (Touchy(), Touchy()), ((Touchy(), Odd()),),
        Circle(()), Circle((("anna", ""),)), Drawing(()), Drawing((("anna", "anna"),)), LotError("anna"),
        deep(list), deep(tuple), deep(dict),
    ]


def no_names():
    """Things of all kinds, none of which is a name; new ones at each call."""
    return [*oddities(), (), ("anna",), ("anna", "bert"), (("anna", "bert"),)]


def same_kind(one, other):
    """Whether they are ==, True being no 1; of what can't be asked this, whether they are one thing."""
    if isinstance(one, (list, tuple)):
        return (
            type(one) is type(other)
            and len(one) == len(other)
            and all(same_kind(mine, its) for mine, its in zip(one, other))
        )
    if isinstance(one, dict):
        return type(one) is type(other) and same_kind(list(one.items()), list(other.items()))
    return one is other or type(one) is type(other) and not isinstance(one, (Odd, Touchy)) and one == other


def free(*names, bars=None, past=None, gap=1):
    """A circle of members without houses."""
    return Circle(tuple((name, "") for name in sorted(names)), bars, past, gap)


def only(names, pairs):
    """The circle of these names in which just these pairs may be."""
    bars = [(giver, taker) for giver in names for taker in names if giver != taker and (giver, taker) not in pairs]
    return free(*names, bars=tuple(sorted(bars)))


def all_pairs(names):
    """All pairs of two of these."""
    return list(permutations(sorted(names), 2))


def subsets(things):
    """All choices of some of these, in their order."""
    return [choice for many in range(len(things) + 1) for choice in combinations(things, many)]


def letters(many):
    """That many names, rising."""
    return [first + second for first in "abcde" for second in "abcdefghij"][:many]


def drawings_of(circle, known=()):
    """The pairs of all drawings that keep and fit, rising: all orders of takers, looked at one after the other."""
    names = circle.names()
    may = {(giver, taker) for giver in names for taker in names if circle.reason(giver, taker) is None}
    orders = [tuple(zip(names, takers)) for takers in permutations(names)]
    return [
        rows for rows in orders
        if set(rows) <= may and all(((giver, taker) in rows) is holds for giver, taker, holds in known)
    ]


def pairs_by(circle, known):
    """The pairs that may be by what is known, by the words of the document."""
    told = []
    for giver in circle.names():
        for taker in circle.names():
            true = [row[:2] for row in known if row[2] and (row[0] == giver or row[1] == taker)]
            if (
                circle.reason(giver, taker) is None
                and (giver, taker, False) not in known
                and all(row == (giver, taker) for row in true)
            ):
                told.append((giver, taker))
    return told


def counted(lot, pairs):
    """Whether all whom these may take, by these pairs, are fewer than these."""
    return len({taker for giver, taker in pairs if giver in lot}) < len(lot)


def knowledge(names, seed, most):
    """Some pairs of these, at the most so many, with truths, as chance has it."""
    chance = random.Random(seed)
    pairs = [(giver, taker) for giver in names for taker in names]
    some = chance.sample(pairs, min(len(pairs), chance.randrange(most + 1)))
    return tuple((*pair, chance.random() < 0.3) for pair in sorted(some))


def chance_circle(names, seed):
    """A circle of these with houses, bars and years, as chance has it."""
    chance = random.Random(seed)
    members = tuple((name, chance.choice(["", "", "", "elm", "oak"])) for name in sorted(names))
    pairs = all_pairs(names)
    bars = tuple(sorted(chance.sample(pairs, chance.randrange(len(pairs) // 2 + 1))))
    past = tuple(
        tuple(sorted(chance.sample(pairs, min(len(pairs), chance.randrange(len(names) + 1))))) for _ in range(3)
    )
    return Circle(members, bars, past, chance.randrange(4))


class Asking(unittest.TestCase):
    """What several tests ask for."""

    def refused(self, refusal, borne, ask, *things, **named):
        """That this is refused, each time it is asked, by a refusal of just this class that bears just this."""
        for _ in range(2):
            with self.assertRaises(LotError) as caught:
                ask(*things, **named)
            self.assertIs(type(caught.exception), refusal)
            (told,) = vars(caught.exception).values()
            self.assertTrue(same_kind(told, borne), (told, borne))

    def in_any_order(self, told, ask, **named):
        """That this is told where these arguments are handed in by their names, in any order."""
        for order in permutations(named.items()):
            self.assertEqual(ask(**dict(order)), told, order)

    def is_lot(self, circle, lot, pairs):
        """That this is a lot of the circle's names who may take, by these pairs, fewer than they are."""
        self.assertIs(type(lot), tuple)
        self.assertEqual(lot, tuple(sorted(set(lot))))
        self.assertTrue(set(lot) <= set(circle.names()))
        self.assertTrue(counted(lot, pairs), (lot, pairs))
