"""Drawing: what is one and what is none, what it tells; keeps and broken."""

import copy
import unittest
from itertools import permutations

from lotgivers.circles import Circle
from lotgivers.drawings import Drawing, broken, keeps
from lotgivers.errors import LotError, NoDrawing, NoMember
from things import Odd, Touchy, all_pairs, free, letters, no_names, oddities, only, same_kind, subsets

SELF = (("anna", "anna"),)
TWO = (("anna", "bert"), ("bert", "anna"))
RING = (("anna", "cleo"), ("bert", "anna"), ("cleo", "dora"), ("dora", "bert"))
CHAINS = (
    ("anna", "emil"), ("bert", "bert"), ("cleo", "fred"), ("dora", "cleo"), ("emil", "anna"), ("fred", "dora"),
)
DRAWINGS = [(), SELF, TWO, RING, CHAINS]


def ring_of(names):
    """The pairs in which each of these gives to the next one."""
    return tuple(sorted(zip(names, [*names[1:], *names[:1]])))


class TestIsNone(unittest.TestCase):
    def refused(self, thing):
        with self.assertRaises(NoDrawing) as caught:
            Drawing(thing)
        self.assertTrue(same_kind(caught.exception.thing, thing), thing)

    def test_pairs_otherwise(self):
        for pairs in DRAWINGS[1:]:
            for at, (giver, taker) in enumerate(pairs):
                if giver != taker:
                    self.refused(pairs[:at] + pairs[at + 1:])
                self.refused(pairs[:at] + (pairs[at], pairs[at]) + pairs[at + 1:])
                for other in [
                    (giver, "zoe"), ("aaa", taker), ("zoe", taker), (giver,), (), (giver, taker, taker), giver,
                    [giver, taker], (giver, None), (None, taker), (giver, "Anna"), (giver, ""), (taker + "\n", taker),
                    (giver, (taker,)), ((giver, taker),), {giver: taker}, {giver, taker}, (giver.encode(), taker),
                ]:
                    self.refused(pairs[:at] + (other,) + pairs[at + 1:])

    def test_exchanged(self):
        for pairs in [TWO, RING, CHAINS]:
            for at in range(len(pairs) - 1):
                self.refused(pairs[:at] + (pairs[at + 1], pairs[at]) + pairs[at + 2:])
            self.refused(pairs[::-1])

    def test_a_giver_or_a_taker_twice(self):
        self.refused((("anna", "anna"), ("anna", "bert")))
        self.refused((("anna", "bert"), ("anna", "cleo"), ("bert", "anna")))
        self.refused((("anna", "bert"), ("bert", "bert")))
        self.refused((("anna", "bert"), ("bert", "anna"), ("cleo", "anna")))
        self.refused((("anna", "bert"), ("anna", "cleo"), ("bert", "anna"), ("cleo", "anna")))
        self.refused((("anna", "anna"), ("anna", "bert"), ("bert", "anna"), ("bert", "bert")))

    def test_takers_who_do_not_give(self):
        self.refused((("anna", "bert"),))
        self.refused((("anna", "bert"), ("bert", "cleo")))
        self.refused((("anna", "bert"), ("bert", "cleo"), ("cleo", "dora")))

    def test_other_kinds_of_rows(self):
        for pairs in DRAWINGS:
            self.refused(list(pairs))
            self.refused(dict(pairs))
            self.refused(set(pairs))
            self.refused([list(pair) for pair in pairs])
            self.refused(Drawing(pairs))
            self.refused(str(Drawing(pairs)))
            if pairs:
                self.refused((pairs,))
                self.refused(tuple(list(pair) for pair in pairs))

    def test_things_of_all_kinds(self):
        for thing in oddities():
            self.refused(thing)
            self.refused((thing,))
            self.refused((("anna", thing),))
            self.refused(((thing, "anna"),))
            self.refused(((thing, thing),))
            self.refused((("anna", "anna"), thing))
        for thing in [("anna",), ("anna", "bert"), (("anna", "bert"),), "anna", "ab"]:
            self.refused(thing)

    def test_bears_a_copy(self):
        thing = [["anna", "bert"], ["bert", "anna"]]
        before = copy.deepcopy(thing)
        with self.assertRaises(NoDrawing) as caught:
            Drawing(thing)
        self.assertEqual(thing, before)
        thing[0].append("cleo")
        self.assertEqual(caught.exception.thing, before)

    def test_all_tuples_of_pairs_of_two_names(self):
        some = [(giver, taker) for giver in ("anna", "bert") for taker in ("anna", "bert")]
        good = [(), SELF, (("bert", "bert"),), TWO, (("anna", "anna"), ("bert", "bert"))]
        for many in range(5):
            for pairs in permutations(some, many):
                if pairs in good:
                    self.assertEqual(Drawing(pairs).pairs, pairs)
                else:
                    self.refused(pairs)


class TestDrawing(unittest.TestCase):
    def test_pairs(self):
        for pairs in DRAWINGS:
            self.assertEqual(Drawing(pairs).pairs, pairs)
            self.assertEqual(Drawing(pairs=pairs).pairs, pairs)
            self.assertEqual(vars(Drawing(pairs)), {"pairs": pairs})
        one, other = Drawing(TWO), Drawing(RING)
        self.assertEqual((one.pairs, other.pairs), (TWO, RING))

    def test_every_order_of_takers(self):
        for takers in permutations(("anna", "bert", "cleo", "dora")):
            pairs = tuple(zip(("anna", "bert", "cleo", "dora"), takers))
            self.assertEqual(Drawing(pairs).pairs, pairs)

    def test_equal_where_the_pairs_are(self):
        for one in DRAWINGS:
            for other in DRAWINGS:
                self.assertIs(Drawing(one) == Drawing(tuple(other)), one is other)
                self.assertIs(Drawing(one) != Drawing(tuple(other)), one is not other)

    def test_equal_to_nothing_else(self):
        for pairs in DRAWINGS:
            for thing in [*no_names(), pairs, str(Drawing(pairs)), Circle(pairs), len(pairs)]:
                if not isinstance(thing, Drawing):
                    self.assertIs(Drawing(pairs) == thing, False)
                    self.assertIs(Drawing(pairs) != thing, True)
                    if not isinstance(thing, (Odd, Touchy)):
                        self.assertIs(thing == Drawing(pairs), False)

    def test_len_and_repr(self):
        for pairs in DRAWINGS:
            self.assertEqual(len(Drawing(pairs)), len(pairs))
            self.assertEqual(repr(Drawing(pairs)), "Drawing(" + str(len(pairs)) + ")")
        self.assertEqual(repr(Drawing(ring_of(letters(24)))), "Drawing(24)")

    def test_str(self):
        self.assertEqual(str(Drawing(())), "")
        self.assertEqual(str(Drawing(SELF)), "anna > anna")
        self.assertEqual(str(Drawing(TWO)), "anna > bert\nbert > anna")
        self.assertEqual(str(Drawing(RING)), "anna > cleo\nbert > anna\ncleo > dora\ndora > bert")

    def test_names(self):
        self.assertEqual(Drawing(()).names(), ())
        self.assertEqual(Drawing(RING).names(), ("anna", "bert", "cleo", "dora"))

    def test_taker_of_and_giver_of(self):
        for pairs in [*DRAWINGS, ring_of(letters(24))]:
            drawing = Drawing(pairs)
            for giver, taker in pairs:
                self.assertEqual(drawing.taker_of(giver), taker)
                self.assertEqual(drawing.giver_of(taker), giver)
                self.assertEqual(drawing.taker_of(name=giver), taker)
                self.assertEqual(drawing.giver_of(name=taker), giver)

    def test_no_member_of_anything(self):
        for pairs in DRAWINGS:
            drawing = Drawing(pairs)
            for thing in [*no_names(), "zoe", "annaa", "ann"]:
                for ask in (drawing.taker_of, drawing.giver_of):
                    with self.assertRaises(NoMember) as caught:
                        ask(thing)
                    self.assertTrue(same_kind(caught.exception.name, thing), thing)

    def test_chains(self):
        for pairs, chains in zip(DRAWINGS, [
            (), (("anna",),), (("anna", "bert"),), (("anna", "cleo", "dora", "bert"),),
            (("anna", "emil"), ("bert",), ("cleo", "fred", "dora")),
        ]):
            self.assertEqual(Drawing(pairs).chains(), chains)
        self.assertEqual(Drawing(ring_of(letters(24))).chains(), (tuple(letters(24)),))
        self.assertEqual(Drawing(tuple((name, name) for name in "abc")).chains(), (("a",), ("b",), ("c",)))

    def test_chains_of_every_order_of_takers(self):
        names = ("a", "b", "c", "d", "e")
        for takers in permutations(names):
            drawing = Drawing(tuple(zip(names, takers)))
            chains = drawing.chains()
            self.assertEqual(chains, tuple(sorted(chains)))
            self.assertEqual(sorted(name for chain in chains for name in chain), list(names))
            for chain in chains:
                self.assertIs(type(chain), tuple)
                self.assertEqual(chain[0], min(chain))
                for giver, taker in zip(chain, chain[1:] + chain[:1]):
                    self.assertEqual(drawing.taker_of(giver), taker)

    def test_tells_the_same_twice(self):
        drawing = Drawing(CHAINS)
        for _ in range(2):
            self.assertEqual(drawing.chains(), (("anna", "emil"), ("bert",), ("cleo", "fred", "dora")))
            self.assertEqual(drawing.taker_of("anna"), "emil")
            self.assertEqual(drawing.giver_of("anna"), "emil")
            with self.assertRaises(NoMember):
                drawing.taker_of("zoe")
        self.assertEqual(drawing.pairs, CHAINS)


class TestKeeps(unittest.TestCase):
    def check(self, circle, pairs, rows):
        drawing = Drawing(pairs)
        for _ in range(2):
            self.assertIs(keeps(circle, drawing), rows == ())
            self.assertEqual(broken(circle, drawing), rows)
            self.assertIs(keeps(drawing=drawing, circle=circle), rows == ())
            self.assertEqual(broken(drawing=drawing, circle=circle), rows)
        self.assertIs(type(broken(circle, drawing)), tuple)
        self.assertEqual(drawing.pairs, pairs)

    def test_that_keep(self):
        self.check(Circle(()), (), ())
        self.check(free("anna", "bert"), TWO, ())
        self.check(free("anna", "bert", "cleo", "dora"), RING, ())
        self.check(free(*letters(24)), ring_of(letters(24)), ())

    def test_broken_by_each_reason(self):
        self.check(free("anna"), SELF, (("anna", "anna", "self"),))
        self.check(free("anna", "bert", bars=(("bert", "anna"),)), TWO, (("bert", "anna", "bar"),))
        self.check(free("anna", "bert", past=((("anna", "bert"),),)), TWO, (("anna", "bert", "past"),))
        self.check(free("anna", "bert", past=((("anna", "bert"),),), gap=0), TWO, ())
        self.check(free("anna", "bert", past=((("anna", "bert"),), ())), TWO, ())
        self.check(
            Circle((("anna", "elm"), ("bert", "elm"))), TWO, (("anna", "bert", "house"), ("bert", "anna", "house")),
        )

    def test_broken_by_several(self):
        circle = Circle(
            (("anna", "elm"), ("bert", ""), ("cleo", ""), ("dora", ""), ("emil", "elm"), ("fred", "")),
            (("bert", "bert"), ("cleo", "fred"), ("dora", "emil")), ((("cleo", "fred"), ("dora", "cleo")),),
        )
        self.check(circle, CHAINS, (
            ("anna", "emil", "house"), ("bert", "bert", "self"), ("cleo", "fred", "bar"), ("dora", "cleo", "past"),
            ("emil", "anna", "house"),
        ))

    def test_other_names(self):
        for names, pairs, least in [
            (("anna", "bert"), (), "anna"), ((), TWO, "anna"), (("anna",), TWO, "bert"), (("bert",), TWO, "anna"),
            (("anna", "bert", "cleo"), TWO, "cleo"), (("aaron", "anna", "bert"), TWO, "aaron"),
            (("anna", "cleo"), TWO, "bert"), (("anna", "aaron"), TWO, "aaron"), (("cleo", "dora"), TWO, "anna"),
            (("anna", "zoe"), (("anna", "yuri"), ("yuri", "anna")), "yuri"),
            (("anna", "xenia", "zoe"), (("anna", "yuri"), ("yuri", "anna")), "xenia"),
            (("anna", "anne"), SELF, "anne"),
        ]:
            circle, drawing = free(*names), Drawing(pairs)
            for _ in range(2):
                self.assertIs(keeps(circle, drawing), False)
                with self.assertRaises(NoMember) as caught:
                    broken(circle, drawing)
                self.assertEqual(caught.exception.name, least)

    def test_every_drawing_of_three(self):
        names = ("anna", "bert", "cleo")
        for pairs in subsets(all_pairs(names)):
            circle = only(names, pairs)
            for takers in permutations(names):
                rows = tuple(zip(names, takers))
                off = [(giver, taker) for giver, taker in rows if (giver, taker) not in pairs]
                self.check(circle, rows, tuple((one, two, "self" if one == two else "bar") for one, two in off))

    def test_refusals_are_lot_errors(self):
        with self.assertRaises(LotError):
            Drawing(None)
        with self.assertRaises(ValueError):
            broken(Circle(()), Drawing(SELF))


if __name__ == "__main__":
    unittest.main()
