"""some_drawing and shows_few: a drawing that keeps, or a lot that anybody can count."""

import random
import unittest
from itertools import permutations

from lotgivers.circles import Circle
from lotgivers.drawings import Drawing, keeps
from lotgivers.errors import TooFew
from lotgivers.fewlooks import shows_few
from lotgivers.finding import some_drawing
from things import all_pairs, counted, free, letters, no_names, oddities, only, subsets


def has_drawing(names, pairs):
    """Whether one of all orders of takers is of these pairs alone."""
    return any(all(pair in pairs for pair in zip(names, takers)) for takers in permutations(names))


class TestSomeDrawing(unittest.TestCase):
    def found(self, circle):
        drawing = some_drawing(circle)
        self.assertIs(type(drawing), Drawing)
        self.assertTrue(keeps(circle, drawing))
        self.assertEqual(some_drawing(circle=circle), drawing)
        may = [(giver, taker) for giver in circle.names() for taker in circle.takers(giver)]
        self.assertTrue(set(drawing.pairs) <= set(may))
        self.assertEqual(drawing.names(), circle.names())

    def refused(self, circle):
        with self.assertRaises(TooFew) as caught:
            some_drawing(circle)
        lot = caught.exception.lot
        self.assertIs(type(lot), tuple)
        self.assertEqual(lot, tuple(sorted(set(lot))))
        self.assertTrue(set(lot) <= set(circle.names()))
        may = [(giver, taker) for giver in circle.names() for taker in circle.takers(giver)]
        self.assertTrue(counted(lot, may))
        self.assertIs(shows_few(circle, lot), True)
        with self.assertRaises(TooFew) as again:
            some_drawing(circle=circle)
        self.assertEqual(again.exception.lot, lot)

    def check(self, names, pairs):
        if has_drawing(names, pairs):
            self.found(only(names, pairs))
        else:
            self.refused(only(names, pairs))

    def test_few_members(self):
        self.assertEqual(some_drawing(Circle(())), Drawing(()))
        self.refused(free("anna"))
        self.found(free("anna", "bert"))
        self.refused(free("anna", "bert", bars=(("anna", "bert"),)))
        self.refused(Circle((("anna", "elm"), ("bert", "elm"))))
        self.found(free("anna", "bert", "cleo"))

    def test_all_circles_of_three(self):
        for pairs in subsets(all_pairs("abc")):
            self.check(tuple("abc"), pairs)

    def test_all_circles_of_four(self):
        for pairs in subsets(all_pairs("abcd")):
            self.check(tuple("abcd"), pairs)

    def test_many_circles_of_six(self):
        chance = random.Random(6)
        for many in range(6, 31):
            for _ in range(8):
                self.check(tuple("abcdef"), set(chance.sample(all_pairs("abcdef"), many)))

    def test_each_size_free(self):
        for many in range(2, 25):
            self.found(free(*letters(many)))

    def test_nearly_all_barred(self):
        names = letters(24)
        for step in (1, 5, 7, 23):
            pairs = {(name, names[(at + step) % 24]) for at, name in enumerate(names)}
            self.found(only(names, pairs))
            for pair in sorted(pairs)[::6]:
                self.refused(only(names, pairs - {pair}))

    def test_all_barred(self):
        self.refused(only(letters(24), set()))

    def test_long_chains_of_exchanges(self):
        # Who comes first takes the least, so the last one moves all of them.
        names = letters(24)
        pairs = {(names[0], names[1]), (names[0], names[2]), (names[23], names[1])}
        pairs |= {(names[at], names[at + 1]) for at in range(2, 23)} | {(names[at], names[at + 2]) for at in range(1, 22)}
        pairs |= {(names[22], names[0]), (names[1], names[0])}
        takers = {name: [taker for giver, taker in pairs if giver == name] for name in names}
        self.assertTrue(all(takers.values()))
        for more in [set(), {(names[23], names[0])}, {(names[5], names[0])}]:
            circle = only(names, pairs | more)
            try:
                some_drawing(circle)
            except TooFew:
                self.refused(circle)
            else:
                self.found(circle)

    def test_hidden_drawings_of_many_sizes(self):
        chance = random.Random(24)
        for many in (8, 12, 16, 20, 24):
            names = letters(many)
            for _ in range(6):
                ring = chance.sample(names, many)
                pairs = set(zip(ring, ring[1:] + ring[:1])) | set(chance.sample(all_pairs(names), many))
                self.found(only(names, pairs))

    def test_too_few_for_some_of_twenty_four(self):
        names = letters(24)
        for many in (2, 5, 12, 23):
            givers, takers = names[24 - many:], names[:many - 1]
            pairs = {pair for pair in all_pairs(names) if pair[0] not in givers or pair[1] in takers}
            self.refused(only(names, pairs))

    def test_houses_and_past(self):
        names = letters(24)
        self.refused(Circle(tuple((name, "elm" if at < 13 else "") for at, name in enumerate(names))))
        self.found(Circle(tuple((name, "elm" if at < 12 else "oak") for at, name in enumerate(names))))
        past = []
        for step in range(1, 11):
            past.append(tuple(sorted((name, names[(at + step) % 24]) for at, name in enumerate(names))))
        self.found(free(*names, past=tuple(past), gap=10))
        self.found(free(*names, past=tuple(past), gap=0))
        self.refused(free("anna", "bert", past=((("anna", "bert"),),)))
        self.found(free("anna", "bert", past=((("anna", "bert"),),), gap=0))

    def test_the_circle_stays(self):
        circle = free("anna", "bert", "cleo", bars=(("anna", "bert"),))
        some_drawing(circle)
        self.assertEqual(circle, free("anna", "bert", "cleo", bars=(("anna", "bert"),)))


class TestShowsFew(unittest.TestCase):
    def check(self, circle, thing, told):
        for _ in range(2):
            self.assertIs(shows_few(circle, thing), told, thing)
        self.assertIs(shows_few(thing=thing, circle=circle), told, thing)

    def test_all_lots_of_all_circles_of_three(self):
        names = ("a", "b", "c")
        for pairs in subsets(all_pairs(names)):
            for lot in subsets(names):
                self.check(only(names, pairs), lot, counted(lot, pairs))

    def test_lots_of_four(self):
        names = ("a", "b", "c", "d")
        for pairs in subsets(all_pairs(names))[::7]:
            circle = only(names, pairs)
            for lot in subsets(names):
                self.check(circle, lot, counted(lot, pairs))

    def test_all_members_and_none(self):
        self.check(Circle(()), (), False)
        self.check(free("anna"), (), False)
        self.check(free("anna"), ("anna",), True)
        self.check(free("anna", "bert"), ("anna", "bert"), False)
        self.check(only(letters(24), set()), tuple(letters(24)), True)
        self.check(only(letters(24), set()), (), False)
        self.check(free(*letters(24)), tuple(letters(24)), False)

    def test_lots_otherwise_than_told(self):
        circle = only(("anna", "bert", "cleo"), {("cleo", "anna")})
        self.check(circle, ("anna", "bert"), True)
        self.check(circle, ("anna", "bert", "cleo"), True)
        for lot in [
            ("bert", "anna"), ("anna", "anna"), ("anna", "anna", "bert"), ("anna", "bert", "bert"),
            ("anna", "zoe"), ("aaa", "anna"), ("zoe",), ("anna", "bert", "zoe"), ("anna", "Bert"), ("", "anna"),
            ["anna", "bert"], [], {"anna": 1, "bert": 2}, {"anna", "bert"}, "anna", "", ("anna", None), (None,),
            (("anna", "bert"),), (("anna",), ("bert",)), (b"anna",), ("anna", ["bert"]), (1, 2),
            ("cleo", "anna", "bert"), ("anna", "cleo", "bert"),
        ]:
            self.check(circle, lot, False)

    def test_names_of_the_bars_are_no_members(self):
        circle = free("anna", "bert", bars=(("anna", "zoe"), ("zoe", "anna")))
        self.check(circle, ("zoe",), False)

    def test_things_of_all_kinds(self):
        for circle in (Circle(()), free("anna"), only(("anna", "bert", "cleo"), set())):
            for thing in oddities():
                self.check(circle, thing, False)
                self.check(circle, (thing,), False)
                self.check(circle, ("anna", thing), False)
                self.check(circle, (thing, "anna"), False)
        for thing in no_names():
            self.check(Circle(()), thing, False)


if __name__ == "__main__":
    unittest.main()
