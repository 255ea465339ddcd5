"""What several tests hand in: things of all kinds, and small circles."""

from itertools import combinations, permutations

from lotgivers.circles import Circle
from lotgivers.drawings import Drawing
from lotgivers.errors import LotError


class Odd:
    """Says it is == to everything."""

    def __eq__(self, other):
        return True

    __hash__ = None


class Touchy:
    """Doesn't let itself be compared or measured."""

    def __eq__(self, other):
        raise RuntimeError("compared")

    def __len__(self):
        raise RuntimeError("measured")

    def __bool__(self):
        raise RuntimeError("asked for its truth")

    __hash__ = None


def deep(kind):
    """Such a thing in such a thing, thirty deep."""
    thing = kind()
    for _ in range(29):
        thing = {"a": thing} if kind is dict else kind([thing])
    return thing


def oddities():
    """Things of all kinds, no names and no tuples of names or of pairs; new ones at each call."""
    return [
        None, True, False, 0, 1, -1, 7, 10 ** 59,
        "", "Anna", "anna ", " anna", "an na", "anna\n", "\n", "a1", "a-b", "_", "abcdefghijklm", "a" * 4000,
        b"", b"anna", [], ["anna"], [["anna", "bert"]], [("anna", "bert")],
        {}, {"anna": "bert"}, {("anna", "bert"): [1]}, set(), {"anna"}, frozenset(["anna"]), range(3),
        (None,), ([],), ({},), (1, True), ("anna", None), (None, "anna"), ("anna", "Bert"), ("anna", ""),
        (("anna",),), (("anna", "bert", "cleo"),), (["anna", "bert"],), (("anna", "Bert"),), (("anna", 1),),
        len, str, Circle, object(), Odd(), Touchy(), (Odd(), Odd()), (Touchy(), Touchy()), ((Touchy(), Odd()),),
        Circle(()), Circle((("anna", ""),)), Drawing(()), Drawing((("anna", "anna"),)), LotError("anna"),
        deep(list), deep(tuple), deep(dict),
    ]


def no_names():
    """Things of all kinds, none of which is a name; new ones at each call."""
    return [*oddities(), (), ("anna",), ("anna", "bert"), (("anna", "bert"),)]


def same_kind(one, other):
    """Whether they are ==, True being no 1; of what can't be asked this, whether they are one thing."""
    if isinstance(one, (list, tuple)):
        return (
            type(one) is type(other)
            and len(one) == len(other)
            and all(same_kind(mine, its) for mine, its in zip(one, other))
        )
    if isinstance(one, dict):
        return type(one) is type(other) and same_kind(list(one.items()), list(other.items()))
    return one is other or type(one) is type(other) and not isinstance(one, (Odd, Touchy)) and one == other


def free(*names, bars=None, past=None, gap=1):
    """A circle of members without houses."""
    return Circle(tuple((name, "") for name in sorted(names)), bars, past, gap)


def only(names, pairs):
    """The circle of these names in which just these pairs may be."""
    bars = [(giver, taker) for giver in names for taker in names if giver != taker and (giver, taker) not in pairs]
    return free(*names, bars=tuple(sorted(bars)))


def all_pairs(names):
    """All pairs of two of these."""
    return list(permutations(sorted(names), 2))


def subsets(things):
    """All choices of some of these, in their order."""
    return [choice for many in range(len(things) + 1) for choice in combinations(things, many)]


def letters(many):
    """That many names, rising."""
    return [first + second for first in "abcde" for second in "abcdefghij"][:many]
