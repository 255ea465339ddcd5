"""lacking, mended, fallen_out, come_in: the fewest draw anew, and layers show that no fewer can."""

import copy
import random
import unittest

from lotgivers.changing import with_one, without
from lotgivers.circles import Circle
from lotgivers.drawings import Drawing
from lotgivers.errors import NoDrawing, NoMember, TooFew, Twice
from lotgivers.finding import some_drawing
from lotgivers.mending import come_in, fallen_out, lacking, mended
from things import (
    Asking, all_pairs, chance_circle, drawings_of, free, letters, no_names, oddities, only, pairs_by, same_kind,
    subsets,
)

THREE = ("anna", "bert", "cleo")
TWO = Drawing((("anna", "bert"), ("bert", "anna")))


def gaps(circle):
    """All pairs with one gap: one fewer than members, no giver and no taker twice."""
    may = pairs_by(circle, ())
    return [
        pairs for pairs in subsets(may)
        if len(pairs) == len(circle) - 1
        and len({giver for giver, _ in pairs}) == len({taker for _, taker in pairs}) == len(pairs)
    ]


def gone_from(names, there):
    """The one of these that isn't there."""
    (name,) = set(names) - set(there)
    return name


def anew_in(rows, pairs):
    """The givers of these rows that aren't among the pairs."""
    return tuple(giver for giver, taker in rows if (giver, taker) not in pairs)


class Mending(Asking):
    def look(self, circle, pairs, told):
        """That what is told keeps, draws anew just these, and layers are as the document says."""
        self.assertIs(type(told), tuple)
        drawing, anew, layers = told
        self.assertIs(type(drawing), Drawing)
        self.assertEqual(drawing.names(), circle.names())
        may = pairs_by(circle, ())
        self.assertTrue(set(drawing.pairs) <= set(may))
        self.assertIs(type(anew), tuple)
        self.assertEqual(anew, anew_in(drawing.pairs, pairs))
        self.look_at_layers(circle, pairs, layers, may)
        self.assertEqual(len(layers), len(anew))

    def look_at_layers(self, circle, pairs, layers, may):
        idle = gone_from(circle.names(), [giver for giver, _ in pairs])
        left_over = gone_from(circle.names(), [taker for _, taker in pairs])
        self.assertIs(type(layers), tuple)
        self.assertEqual(layers[0], (idle,))
        place = {}
        for at, layer in enumerate(layers):
            self.assertIs(type(layer), tuple)
            self.assertEqual(layer, tuple(sorted(set(layer))))
            self.assertNotEqual(layer, ())
            for giver in layer:
                self.assertIn(giver, circle.names())
                self.assertNotIn(giver, place)
                place[giver] = at
        giver_of = {taker: giver for giver, taker in pairs}
        for giver, taker in may:
            if place.get(giver, len(layers)) < len(layers) - 1:
                self.assertNotEqual(taker, left_over)
                self.assertLessEqual(place.get(giver_of[taker], len(layers)), place[giver] + 1)

    def mends(self, circle, pairs, most=None):
        """What mended tells, looked at; by all drawings gone through, where most isn't told."""
        told = mended(circle, pairs)
        self.look(circle, pairs, told)
        self.assertEqual(mended(circle, pairs), told)
        fewest = most
        if most is None:
            fewest = min(len(anew_in(rows, pairs)) for rows in drawings_of(circle))
        self.assertEqual(len(told[1]), fewest, (str(circle), pairs))
        return told

    def too_few(self, circle, ask, *things):
        """That there is no drawing, with a lot counted here."""
        for _ in range(2):
            with self.assertRaises(TooFew) as caught:
                ask(*things)
            self.is_lot(circle, caught.exception.lot, pairs_by(circle, ()))

    def check(self, circle, pairs):
        if drawings_of(circle):
            self.mends(circle, pairs)
        else:
            self.too_few(circle, mended, circle, pairs)


class TestLacking(Asking):
    def test_giver_and_taker(self):
        circle = free(*THREE)
        for pairs, told in [
            ((("anna", "bert"), ("bert", "cleo")), ("cleo", "anna")),
            ((("anna", "bert"), ("cleo", "anna")), ("bert", "cleo")),
            ((("anna", "bert"), ("bert", "anna")), ("cleo", "cleo")),
            ((("bert", "cleo"), ("cleo", "bert")), ("anna", "anna")),
        ]:
            self.assertEqual(lacking(circle, pairs), told)
            self.assertIs(type(lacking(circle, pairs)), tuple)
            self.in_any_order(told, lacking, circle=circle, pairs=pairs)
        self.assertEqual(lacking(free("anna"), ()), ("anna", "anna"))
        self.assertEqual(lacking(free("anna", "bert"), (("bert", "anna"),)), ("anna", "bert"))

    def test_all_pairs_of_circles_of_three(self):
        for may in subsets(all_pairs(THREE))[::3]:
            circle = only(THREE, may)
            good = gaps(circle)
            for pairs in subsets(all_pairs(THREE)):
                if pairs in good:
                    told = (gone_from(THREE, dict(pairs)), gone_from(THREE, [taker for _, taker in pairs]))
                    self.assertEqual(lacking(circle, pairs), told)
                else:
                    self.refused(NoDrawing, pairs, lacking, circle, pairs)

    def test_of_other_pairs(self):
        circle = free("anna", "bert", "cleo", "dora", bars=(("anna", "cleo"),), past=((("anna", "dora"),),))
        good = (("anna", "bert"), ("bert", "cleo"), ("cleo", "dora"))
        self.assertEqual(lacking(circle, good), ("dora", "anna"))
        for pairs in [
            good[:2], good[1:], (), good + (("dora", "anna"),), good[::-1], (good[1], good[0], good[2]),
            good[:2] + good[1:], list(good), dict(good), set(good), Drawing(()), "anna > bert", (good,),
            tuple(list(pair) for pair in good), (("anna", "bert"), ("bert", "bert"), ("cleo", "dora")),
            (("anna", "cleo"), ("bert", "anna"), ("cleo", "dora")),
            (("anna", "dora"), ("bert", "anna"), ("cleo", "bert")),
            (("anna", "bert"), ("bert", "cleo"), ("zoe", "dora")),
            (("anna", "bert"), ("bert", "cleo"), ("cleo", "zoe")),
            (("anna", "bert"), ("anna", "bert"), ("cleo", "dora")),
            (("anna", "bert"), ("cleo", "bert"), ("dora", "anna")),
            (("bert", "anna"), ("bert", "cleo"), ("cleo", "dora")),
            (("anna", "bert"), ("bert", "cleo"), ("cleo", "Dora")),
            (("anna", "bert"), ("bert", "cleo"), ("cleo",)), (("anna", "bert"), ("bert", "cleo"), None),
        ]:
            self.refused(NoDrawing, pairs, lacking, circle, pairs)
            self.refused(NoDrawing, pairs, mended, circle, pairs)

    def test_houses(self):
        circle = Circle((("anna", "elm"), ("bert", "elm"), ("cleo", "")))
        pairs = (("anna", "bert"), ("bert", "cleo"))
        self.refused(NoDrawing, pairs, lacking, circle, pairs)
        self.assertEqual(lacking(circle, (("anna", "cleo"), ("cleo", "bert"))), ("bert", "anna"))

    def test_of_anything(self):
        for circle in (Circle(()), free("anna", "bert"), free(*THREE)):
            for thing in [*oddities(), ("anna",), ("anna", "bert")]:
                for pairs in [thing, (thing,), (thing, thing), (("anna", "bert"), thing), (("anna", thing),)]:
                    if not same_kind(thing, ("anna", "bert")) or len(circle) != 2:
                        self.refused(NoDrawing, pairs, lacking, circle, pairs)
                        self.refused(NoDrawing, pairs, mended, circle, pairs)

    def test_no_drawing_bears_a_copy(self):
        drawing = Drawing(TWO.pairs)
        with self.assertRaises(NoDrawing) as caught:
            lacking(free(*THREE), drawing)
        drawing.pairs = ()
        self.assertEqual(caught.exception.thing, TWO)

    def test_of_nobody(self):
        self.refused(NoDrawing, (), lacking, Circle(()), ())
        self.refused(NoDrawing, (), mended, Circle(()), ())

    def test_twenty_four_members(self):
        names = letters(24)
        ring = tuple(zip(names, names[1:] + names[:1]))
        for at in range(24):
            pairs = ring[:at] + ring[at + 1:]
            self.assertEqual(lacking(free(*names), pairs), ring[at])


class TestMended(Mending):
    def test_all_gaps_of_circles_of_three(self):
        for may in subsets(all_pairs(THREE)):
            circle = only(THREE, may)
            for pairs in gaps(circle):
                self.check(circle, pairs)

    def test_gaps_of_circles_of_four(self):
        for may in subsets(all_pairs("abcd"))[::19]:
            circle = only("abcd", may)
            for pairs in gaps(circle)[::5]:
                self.check(circle, pairs)

    def test_chance_circles(self):
        for seed in range(80):
            names = "abcdef"[:3 + seed % 4]
            circle = chance_circle(names, seed)
            may = pairs_by(circle, ())
            chance = random.Random(seed)
            found = {}
            for giver, taker in chance.sample(may, len(may)):
                if giver not in found and taker not in found.values() and len(found) < len(names) - 1:
                    found[giver] = taker
            if len(found) == len(names) - 1:
                self.check(circle, tuple(sorted(found.items())))

    def test_small_circles(self):
        self.too_few(free("anna"), mended, free("anna"), ())
        self.assertEqual(self.mends(free("anna", "bert"), (("bert", "anna"),)), (TWO, ("anna",), (("anna",),)))
        circle = free("anna", "bert", bars=(("anna", "bert"),))
        self.too_few(circle, mended, circle, (("bert", "anna"),))

    def test_the_lacking_giver_and_taker_are_one(self):
        pairs = (("anna", "bert"), ("bert", "anna"))
        drawing, anew, layers = self.mends(free(*THREE), pairs)
        self.assertEqual(layers[0], ("cleo",))
        self.assertEqual(layers[1], ("anna", "bert"))
        self.assertEqual(len(anew), 2)
        self.mends(free(*"abcd"), (("a", "b"), ("b", "c"), ("c", "a")))
        circle = free(*THREE, bars=(("anna", "cleo"), ("bert", "cleo")))
        self.too_few(circle, mended, circle, pairs)

    def test_the_one_whose_taker_is_gone_alone(self):
        pairs = (("anna", "bert"), ("bert", "cleo"))
        self.assertEqual(self.mends(free(*THREE), pairs)[1:], (("cleo",), (("cleo",),)))

    def test_by_name_in_any_order(self):
        pairs = (("anna", "bert"), ("bert", "anna"))
        self.in_any_order(mended(free(*THREE), pairs), mended, circle=free(*THREE), pairs=pairs)

    def test_all_draw_anew(self):
        # The last one may take the second alone, whose giver the third alone instead, and so on to the first.
        for many in (5, 12, 24):
            names = letters(many)
            pairs = tuple(zip(names, names[1:]))
            may = {*pairs, *zip(names, names[2:]), (names[-2], names[0]), (names[-1], names[1])}
            drawing, anew, layers = self.mends(only(names, may), pairs, most=many)
            self.assertEqual(anew, tuple(names))
            self.assertEqual(layers, ((names[-1],), *[(name,) for name in names[:-1]]))
            self.too_few(only(names, may - {(names[-2], names[0])}), mended, only(names, may - {(names[-2], names[0])}),
                         pairs)

    def test_twenty_four_members(self):
        names = letters(24)
        ring = tuple(zip(names, names[1:] + names[:1]))
        for at in (0, 11, 23):
            pairs = ring[:at] + ring[at + 1:]
            self.mends(free(*names), pairs, most=1)
            self.mends(free(*names, bars=(ring[at],)), pairs, most=2)
        step = {(names[at], names[(at + off) % 24]) for at in range(24) for off in (1, 2, 5)}
        for at in range(0, 24, 5):
            pairs = ring[:at] + ring[at + 1:]
            circle = only(names, step - {ring[at]})
            self.look(circle, pairs, mended(circle, pairs))
        circle = only(names, set(ring[:-1]) | {(names[23], names[5])})
        self.too_few(circle, mended, circle, ring[:-1])

    def test_what_is_handed_in_stays(self):
        circle, pairs = free(*THREE), (("anna", "bert"), ("bert", "anna"))
        told = mended(circle, pairs)
        told[0].pairs = ()
        self.assertEqual(circle, free(*THREE))
        self.assertEqual(pairs, (("anna", "bert"), ("bert", "anna")))
        self.mends(circle, pairs)
        rows = [["anna", "bert"], ["bert", "anna"]]
        before = copy.deepcopy(rows)
        with self.assertRaises(NoDrawing) as caught:
            mended(circle, rows)
        self.assertEqual(rows, before)
        rows[0].append("cleo")
        self.assertEqual(caught.exception.thing, before)


class TestFallenOut(Mending):
    def falls(self, circle, drawing, name):
        """What fallen_out tells, as mended of what is left over."""
        smaller = without(circle, name)
        pairs = tuple(pair for pair in drawing.pairs if name not in pair)
        if len(circle) < 8 and not drawings_of(smaller):
            self.too_few(smaller, fallen_out, circle, drawing, name)
            return None
        told = fallen_out(circle, drawing, name)
        self.look(smaller, pairs, told)
        self.assertEqual(fallen_out(circle, drawing, name), told)
        self.assertEqual(told, mended(smaller, pairs))
        if len(circle) < 8:
            fewest = min(len(anew_in(rows, pairs)) for rows in drawings_of(smaller))
            self.assertEqual(len(told[1]), fewest)
        return told

    def test_each_of_all_drawings(self):
        for circle in (free("anna", "bert"), free(*THREE), free(*"abcd"), free(*"abcd", bars=(("a", "b"), ("c", "d")))):
            for rows in drawings_of(circle):
                for name in circle.names():
                    self.falls(circle, Drawing(rows), name)

    def test_chance_circles(self):
        for seed in range(60):
            circle = chance_circle("abcdef"[:3 + seed % 4], seed)
            for rows in drawings_of(circle)[::9]:
                for name in circle.names():
                    self.falls(circle, Drawing(rows), name)

    def test_who_gave_to_them_takes_whom_they_gave_to(self):
        drawing = Drawing((("a", "b"), ("b", "c"), ("c", "d"), ("d", "a")))
        told = self.falls(free(*"abcd"), drawing, "b")
        self.assertEqual(told, (Drawing((("a", "c"), ("c", "d"), ("d", "a"))), ("a",), (("a",),)))
        barred = self.falls(free(*"abcd", bars=(("a", "c"),)), drawing, "b")
        self.assertEqual(len(barred[1]), 3)

    def test_two_who_give_to_one_another(self):
        drawing = Drawing((("a", "b"), ("b", "a"), ("c", "d"), ("d", "c")))
        told = self.falls(free(*"abcd"), drawing, "a")
        self.assertEqual(told[2], (("b",), ("c", "d")))
        self.assertEqual(len(told[1]), 2)
        self.assertIn("b", told[1])
        self.too_few(free("bert"), fallen_out, free("anna", "bert"), TWO, "anna")
        circle = free(*"abcd", bars=(("b", "c"), ("b", "d")))
        self.too_few(without(circle, "a"), fallen_out, circle, drawing, "a")

    def test_bars_and_years_of_who_falls_out_stay(self):
        circle = free(*"abcd", bars=(("a", "c"),), past=((("c", "a"),), (("b", "d"),)), gap=2)
        drawing = Drawing((("a", "d"), ("b", "a"), ("c", "b"), ("d", "c")))
        self.assertIn(drawing.pairs, drawings_of(circle))
        for name in "abcd":
            self.falls(circle, drawing, name)

    def test_by_name_in_any_order(self):
        circle = free("anna", "bert", "cleo", "dora")
        drawing = some_drawing(circle)
        told = fallen_out(circle, drawing, "dora")
        self.in_any_order(told, fallen_out, circle=circle, drawing=drawing, name="dora")

    def test_twenty_four_members(self):
        names = letters(24)
        circle = Circle(tuple((name, ("elm", "oak", "")[at % 3]) for at, name in enumerate(names)))
        drawing = some_drawing(circle)
        for name in names[::5]:
            self.falls(circle, drawing, name)

    def test_of_drawings_that_do_not_keep(self):
        circle = free(*THREE, bars=(("anna", "bert"),))
        for drawing in [
            Drawing(()), TWO, Drawing((("anna", "bert"), ("bert", "cleo"), ("cleo", "anna"))),
            Drawing((("anna", "anna"), ("bert", "cleo"), ("cleo", "bert"))),
            Drawing((("anna", "cleo"), ("bert", "anna"), ("cleo", "dora"), ("dora", "bert"))),
        ]:
            for name in ["anna", "bert", "zoe", None, [], 7]:
                self.refused(NoDrawing, drawing, fallen_out, circle, drawing, name)
        self.refused(NoDrawing, Drawing((("a", "a"),)), fallen_out, free("a"), Drawing((("a", "a"),)), "a")

    def test_of_anything_as_a_drawing(self):
        for thing in [*no_names(), TWO.pairs, str(TWO)]:
            self.refused(NoDrawing, thing, fallen_out, free("anna", "bert"), thing, "anna")
            self.refused(NoDrawing, thing, fallen_out, free("anna", "bert"), thing, thing)
            self.refused(NoDrawing, thing, come_in, free("anna", "bert"), thing, ("anna", ""))
            self.refused(NoDrawing, thing, come_in, free("anna", "bert"), thing, ("zoe", ""))

    def test_no_member_of_anything(self):
        for thing in [*no_names(), "zoe", "annaa"]:
            self.refused(NoMember, thing, fallen_out, free("anna", "bert"), TWO, thing)
            self.refused(NoMember, thing, fallen_out, Circle(()), Drawing(()), thing)

    def test_no_drawing_bears_a_copy(self):
        drawing = Drawing((("anna", "bert"), ("bert", "anna")))
        with self.assertRaises(NoDrawing) as caught:
            fallen_out(free(*THREE), drawing, "anna")
        drawing.pairs = ()
        self.assertEqual(caught.exception.thing, TWO)

    def test_what_is_handed_in_stays(self):
        circle, drawing = free("anna", "bert", "cleo"), Drawing((("anna", "bert"), ("bert", "cleo"), ("cleo", "anna")))
        pairs = drawing.pairs
        fallen_out(circle, drawing, "anna")
        come_in(circle, drawing, ("zoe", ""))
        self.assertEqual(circle, free("anna", "bert", "cleo"))
        self.assertEqual(drawing.pairs, pairs)
        self.refused(NoMember, "zoe", fallen_out, circle, drawing, "zoe")
        self.refused(Twice, "anna", come_in, circle, drawing, ("anna", "elm"))
        self.assertEqual(circle, free("anna", "bert", "cleo"))
        self.assertEqual(drawing.pairs, pairs)


class TestComeIn(Mending):
    def comes(self, circle, drawing, member):
        """What come_in tells, as mended of the larger circle."""
        larger = with_one(circle, member)
        if len(larger) < 8 and not drawings_of(larger):
            self.too_few(larger, come_in, circle, drawing, member)
            return None
        told = come_in(circle, drawing, member)
        self.look(larger, drawing.pairs, told)
        self.assertEqual(come_in(circle, drawing, member), told)
        self.assertEqual(told, mended(larger, drawing.pairs))
        self.assertEqual(told[2][0], (member[0],))
        if len(larger) < 8:
            fewest = min(len(anew_in(rows, drawing.pairs)) for rows in drawings_of(larger))
            self.assertEqual(len(told[1]), fewest)
        return told

    def test_of_all_drawings(self):
        for circle in (free("anna", "bert"), free(*THREE), free(*"abcd", bars=(("a", "b"), ("c", "d"), ("zoe", "a")))):
            for rows in drawings_of(circle):
                for member in [("aaron", ""), ("bea", "elm"), ("zoe", "")]:
                    told = self.comes(circle, Drawing(rows), member)
                    if not circle.bars:
                        self.assertEqual(len(told[1]), 2)

    def test_chance_circles(self):
        for seed in range(60):
            names = "abcdef"[:3 + seed % 4]
            circle = chance_circle(names, seed)
            for gone in (names[0], names[-1]):
                smaller = without(circle, gone)
                for rows in drawings_of(smaller)[::9]:
                    self.comes(smaller, Drawing(rows), (gone, circle.house_of(gone)))

    def test_into_a_circle_of_nobody(self):
        self.too_few(free("anna"), come_in, Circle(()), Drawing(()), ("anna", ""))

    def test_who_may_take_nobody(self):
        circle = free("anna", "bert", bars=(("zoe", "anna"), ("zoe", "bert")))
        self.too_few(with_one(circle, ("zoe", "")), come_in, circle, TWO, ("zoe", ""))
        circle = free("anna", "bert", bars=(("anna", "zoe"), ("bert", "zoe")))
        self.too_few(with_one(circle, ("zoe", "")), come_in, circle, TWO, ("zoe", ""))
        circle = Circle((("anna", "elm"), ("bert", "oak")))
        self.comes(circle, TWO, ("cleo", "elm"))

    def test_by_name_in_any_order(self):
        told = come_in(free("anna", "bert"), TWO, ("cleo", ""))
        self.in_any_order(told, come_in, circle=free("anna", "bert"), drawing=TWO, member=("cleo", ""))

    def test_twenty_four_members(self):
        names = letters(23)
        circle = Circle(tuple((name, ("elm", "oak", "")[at % 3]) for at, name in enumerate(names)))
        for house in ("", "elm"):
            told = self.comes(circle, some_drawing(circle), ("zoe", house))
            self.assertEqual(len(told[1]), 2)

    def test_of_drawings_that_do_not_keep(self):
        circle = free(*THREE, bars=(("anna", "bert"),))
        for drawing in [
            Drawing(()), TWO, Drawing((("anna", "bert"), ("bert", "cleo"), ("cleo", "anna"))),
            Drawing((("anna", "cleo"), ("bert", "anna"), ("cleo", "dora"), ("dora", "bert"))),
        ]:
            for member in [("anna", ""), ("dora", ""), ("zoe", "elm")]:
                self.refused(NoDrawing, drawing, come_in, circle, drawing, member)

    def test_twice(self):
        for name in ("anna", "bert"):
            for house in ("", "elm"):
                self.refused(Twice, name, come_in, free("anna", "bert"), TWO, (name, house))


if __name__ == "__main__":
    unittest.main()
