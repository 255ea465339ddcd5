"""many, kth, number_of, drawn, counts: all drawings that keep and fit, counted and numbered."""

import random
import unittest

from lotgivers.circles import Circle
from lotgivers.counting import counts, drawn, kth, many, number_of
from lotgivers.drawings import Drawing
from lotgivers.errors import NoDrawing, NoMember, NoNumber, TooMany
from things import (
    Asking, all_pairs, chance_circle, drawings_of, free, knowledge, letters, no_names, oddities, only, pairs_by,
    subsets,
)

THREE = ("anna", "bert", "cleo")
# How many orders there are in which nobody stands in their own place: of nobody, of one, of two ..
NOBODY_IN_PLACE = [1, 0, 1, 2, 9, 44, 265, 1854, 14833, 133496, 1334961]
# Knowledge that no drawing of the free circle of three fits.
HOPELESS = [
    (("anna", "bert", True), ("anna", "cleo", True)),
    (("anna", "cleo", True), ("bert", "cleo", True)),
    (("anna", "anna", True),),
    (("anna", "bert", False), ("anna", "cleo", False)),
    (("anna", "bert", True), ("bert", "anna", True)),
]


def few_bars():
    """A circle of ten members with few bars."""
    return free(*letters(10), bars=(("aa", "ab"), ("ab", "aa"), ("ac", "ad"), ("aj", "ai")))


def cases():
    """Circles, and what is known of them."""
    found = [(Circle(()), ()), (free("anna"), ()), (free("anna", "bert"), ()), (free(*THREE), ())]
    found += [(only(THREE, pairs), ()) for pairs in subsets(all_pairs(THREE))[::3]]
    found += [(free(*THREE), known) for known in HOPELESS]
    found += [(free(*THREE, bars=(("anna", "bert"),)), (("anna", "bert", True),))]
    for seed in range(60):
        names = "abcdef"[:2 + seed % 5]
        circle = chance_circle(names, seed) if seed % 3 else free(*names)
        found.append((circle, knowledge(names, seed, seed % 4)))
    return found


class TestMany(Asking):
    def check(self, circle, known, told):
        for _ in range(2):
            self.assertEqual(many(circle, known), told)
        self.assertIs(type(many(circle, known)), int)
        self.in_any_order(told, many, circle=circle, known=known)
        if known == ():
            for again in (many(circle), many(circle=circle), many(circle, None), many(circle, known=None)):
                self.assertEqual(again, told)

    def test_of_all_drawings_gone_through(self):
        for circle, known in cases():
            self.check(circle, known, len(drawings_of(circle, known)))

    def test_all_circles_of_three(self):
        for pairs in subsets(all_pairs(THREE)):
            self.check(only(THREE, pairs), (), len(drawings_of(only(THREE, pairs))))

    def test_circles_of_four(self):
        for pairs in subsets(all_pairs("abcd"))[::5]:
            self.assertEqual(many(only("abcd", pairs)), len(drawings_of(only("abcd", pairs))))

    def test_free_circles_of_each_size(self):
        for size, told in enumerate(NOBODY_IN_PLACE):
            self.check(free(*letters(size)), (), told)

    def test_ten_in_houses(self):
        names = letters(10)
        two = Circle(tuple((name, "elm" if at < 5 else "oak") for at, name in enumerate(names)))
        self.check(two, (), 120 * 120)
        six = Circle(tuple((name, "elm" if at < 6 else "oak") for at, name in enumerate(names)))
        self.check(six, (), 0)
        self.check(two, (("aa", "af", True),), 24 * 120)

    def test_no_drawing(self):
        for known in HOPELESS:
            self.check(free(*THREE), known, 0)
        self.check(free("anna"), (), 0)
        self.check(free("anna"), (("anna", "anna", True),), 0)
        self.check(free("anna", "bert", bars=(("anna", "bert"),)), (("anna", "bert", True),), 0)

    def test_false_of_a_pair_that_may_not_be(self):
        self.check(free(*THREE), (("anna", "anna", False),), 2)

    def test_past_and_gap(self):
        past = ((("anna", "bert"),), ())
        for gap, told in [(0, 2), (1, 2), (2, 1), (10 ** 29, 1)]:
            self.check(free(*THREE, past=past, gap=gap), (), told)


class TestKth(Asking):
    def test_all_of_them_rising(self):
        for circle, known in cases():
            told = drawings_of(circle, known)
            self.assertEqual(told, sorted(told))
            for number, pairs in enumerate(told):
                drawing = kth(circle, number, known)
                self.assertIs(type(drawing), Drawing)
                self.assertEqual(drawing.pairs, pairs)
                self.assertEqual(kth(circle, number, known), drawing)
            for number in (len(told), len(told) + 1, -1, 10 ** 59):
                self.refused(NoNumber, number, kth, circle, number, known)

    def test_of_nobody_and_of_one(self):
        self.assertEqual(kth(Circle(()), 0), Drawing(()))
        self.refused(NoNumber, 1, kth, Circle(()), 1)
        self.refused(NoNumber, 0, kth, free("anna"), 0)

    def test_of_ten(self):
        circle = free(*letters(10))
        self.assertEqual(str(kth(circle, 0)).replace("\n", " "), "aa > ab ab > aa ac > ad ad > ac ae > af af > ae"
                         " ag > ah ah > ag ai > aj aj > ai")
        self.assertEqual([taker for _, taker in kth(circle, 1334960).pairs], letters(10)[::-1])
        self.refused(NoNumber, 1334961, kth, circle, 1334961)
        some = [0, 1, 2, 99, 148329, 148330, 777777, 1334958, 1334959, 1334960]
        pairs = [kth(circle, number).pairs for number in some]
        self.assertEqual(pairs, sorted(pairs))

    def test_none_known(self):
        for none in (None, ()):
            self.assertEqual(kth(free(*THREE), 1, none), kth(free(*THREE), 1))
            self.in_any_order(kth(free(*THREE), 1), kth, circle=free(*THREE), number=1, known=none)
        self.in_any_order(kth(free(*THREE), 1), kth, circle=free(*THREE), number=1)
        known = (("anna", "cleo", True),)
        self.in_any_order(kth(free(*THREE), 1), kth, circle=free(*THREE), number=0, known=known)

    def test_no_number_of_anything(self):
        for thing in [*no_names(), "0", b"0", "anna"]:
            if not isinstance(thing, int) or isinstance(thing, bool):
                self.refused(NoNumber, thing, kth, free(*THREE), thing)
                self.refused(NoNumber, thing, kth, Circle(()), thing)
                self.refused(NoNumber, thing, kth, free("anna"), thing, None)
        for number in (-1, -2, 2, 3, -10 ** 59):
            self.refused(NoNumber, number, kth, free(*THREE), number)

    def test_no_number_bears_a_copy(self):
        thing = [[0]]
        with self.assertRaises(NoNumber) as caught:
            kth(free(*THREE), thing)
        thing[0].append(1)
        self.assertEqual(caught.exception.number, [[0]])


class TestNumberOf(Asking):
    def test_all_of_them(self):
        for circle, known in cases():
            for number, pairs in enumerate(drawings_of(circle, known)):
                self.assertEqual(number_of(circle, Drawing(pairs), known), number)
                self.assertIs(type(number_of(circle, Drawing(pairs), known)), int)

    def test_of_ten(self):
        chance = random.Random(10)
        for circle in (free(*letters(10)), few_bars()):
            whole = many(circle)
            for number in [0, 1, whole - 1, *[chance.randrange(whole) for _ in range(40)]]:
                self.assertEqual(number_of(circle, kth(circle, number)), number)
            known = (("aa", "ac", True), ("ab", "ad", False))
            for number in (0, many(circle, known) // 2, many(circle, known) - 1):
                drawing = kth(circle, number, known)
                self.assertEqual(number_of(circle, drawing, known), number)
                self.assertEqual(drawing.taker_of("aa"), "ac")
                self.assertNotEqual(drawing.taker_of("ab"), "ad")

    def test_by_name_in_any_order(self):
        drawing = Drawing((("anna", "cleo"), ("bert", "anna"), ("cleo", "bert")))
        self.in_any_order(1, number_of, circle=free(*THREE), drawing=drawing)
        self.in_any_order(1, number_of, circle=free(*THREE), drawing=drawing, known=None)
        self.in_any_order(0, number_of, circle=free(*THREE), drawing=drawing, known=(("anna", "cleo", True),))

    def test_of_one_that_does_not_keep_or_fit(self):
        for circle, known in cases():
            good = drawings_of(circle, known)
            for pairs in drawings_of(free(*circle.names())):
                if pairs not in good:
                    self.refused(NoDrawing, Drawing(pairs), number_of, circle, Drawing(pairs), known)

    def test_of_other_names(self):
        two = Drawing((("anna", "bert"), ("bert", "anna")))
        self.refused(NoDrawing, two, number_of, free(*THREE), two)
        self.refused(NoDrawing, two, number_of, Circle(()), two)
        self.refused(NoDrawing, two, number_of, free("anna", "zoe"), two)
        self.refused(NoDrawing, Drawing(()), number_of, free(*THREE), Drawing(()))
        self.refused(NoDrawing, Drawing((("anna", "anna"),)), number_of, free("anna"), Drawing((("anna", "anna"),)))
        self.assertEqual(number_of(Circle(()), Drawing(())), 0)

    def test_of_anything(self):
        for thing in [*no_names(), (("anna", "bert"), ("bert", "anna")), "anna > bert\nbert > anna"]:
            self.refused(NoDrawing, thing, number_of, free("anna", "bert"), thing)

    def test_no_drawing_bears_a_copy(self):
        drawing = Drawing((("anna", "anna"),))
        with self.assertRaises(NoDrawing) as caught:
            number_of(free("anna"), drawing)
        drawing.pairs = ()
        self.assertEqual(caught.exception.thing, Drawing((("anna", "anna"),)))


class TestDrawn(Asking):
    def test_each_equally_often(self):
        for circle, known in cases():
            told = drawings_of(circle, known)
            times = 3 if len(told) < 20 else 2
            found = [drawn(circle, lot, known).pairs for lot in range(times * len(told))]
            self.assertEqual(found, told * times)

    def test_of_lots_of_sixty_figures(self):
        circle = few_bars()
        for lot in (0, many(circle) - 1, many(circle), 10 ** 59, 10 ** 60 - 1, many(circle) * 10 ** 53):
            self.assertEqual(drawn(circle, lot), kth(circle, lot % many(circle)))
            self.in_any_order(drawn(circle, lot), drawn, circle=circle, lot=lot)
            self.in_any_order(drawn(circle, lot), drawn, circle=circle, lot=lot, known=())
        known = (("aa", "ac", True),)
        self.in_any_order(kth(circle, 10 ** 59 % many(circle, known), known), drawn, circle=circle, lot=10 ** 59,
                          known=known)
        self.assertEqual(drawn(Circle(()), 10 ** 59), Drawing(()))

    def test_where_there_is_none(self):
        for lot in (0, 1, 7, 10 ** 59):
            self.refused(NoNumber, lot, drawn, free("anna"), lot)
            for known in HOPELESS:
                self.refused(NoNumber, lot, drawn, free(*THREE), lot, known)

    def test_what_is_no_lot(self):
        for thing in [-1, -10 ** 59, True, False, None, "0", [0], (0,), b"0"]:
            self.refused(NoNumber, thing, drawn, free(*THREE), thing)
            self.refused(NoNumber, thing, drawn, free("anna"), thing)


class TestCounts(Asking):
    def test_of_all_drawings_gone_through(self):
        for circle, known in cases():
            told = drawings_of(circle, known)
            rows = tuple(
                (giver, taker, len([pairs for pairs in told if (giver, taker) in pairs]))
                for giver, taker in pairs_by(circle, known)
            )
            for _ in range(2):
                self.assertEqual(counts(circle, known), rows)
            self.assertIs(type(counts(circle, known)), tuple)
            self.in_any_order(rows, counts, circle=circle, known=known)
            if known == ():
                self.assertEqual(counts(circle), rows)
                self.assertEqual(counts(circle, None), rows)

    def test_pairs_in_none_are_told_too(self):
        self.assertEqual(counts(free(*THREE, bars=(("anna", "bert"),))), (
            ("anna", "cleo", 1), ("bert", "anna", 1), ("bert", "cleo", 0), ("cleo", "anna", 0), ("cleo", "bert", 1),
        ))
        self.assertEqual(counts(free(*THREE), (("anna", "anna", True),)), (("bert", "cleo", 0), ("cleo", "bert", 0)))

    def test_of_nobody_and_of_one(self):
        self.assertEqual(counts(Circle(())), ())
        self.assertEqual(counts(free("anna")), ())

    def test_of_ten(self):
        self.assertEqual(counts(free(*letters(10))), tuple((*pair, 148329) for pair in all_pairs(letters(10))))
        circle = few_bars()
        for known in ((), (("aa", "ac", True), ("ab", "ad", False))):
            rows = counts(circle, known)
            self.assertEqual([row[:2] for row in rows], pairs_by(circle, known))
            for name in circle.names():
                self.assertEqual(sum(row[2] for row in rows if row[0] == name), many(circle, known))
                self.assertEqual(sum(row[2] for row in rows if row[1] == name), many(circle, known))
            for giver, taker, ways in rows[::7]:
                facts = tuple(sorted({*known, (giver, taker, True)}))
                self.assertEqual(many(circle, facts), ways)


def asked(circle, known):
    """Each of the five, with things that it refuses behind all else."""
    return [
        (many, (circle, known)), (kth, (circle, None, known)), (number_of, (circle, Drawing(()), known)),
        (number_of, (circle, None, known)), (drawn, (circle, 0, known)), (drawn, (circle, None, known)),
        (counts, (circle, known)),
    ]


class TestRefusals(Asking):
    def test_strangers_in_what_is_known(self):
        for circle in (Circle(()), free(*THREE), free(*letters(10)), free(*letters(11)), free(*letters(24))):
            for known, name in [
                ((("yuri", "zoe", True),), "yuri"),
                ((("zoe", "yuri", False),), "zoe"),
                ((("xenia", "yuri", True), ("zoe", "anna", True)), "xenia"),
            ]:
                for ask, things in asked(circle, known):
                    self.refused(NoMember, name, ask, *things)
        known = (("anna", "bert", True), ("anna", "zoe", False), ("xenia", "anna", True))
        for ask, things in asked(free(*THREE), known):
            self.refused(NoMember, "zoe", ask, *things)

    def test_strangers_of_any_kind(self):
        for thing in oddities():
            for ask, things in asked(free(*THREE), ((thing, "anna", True),)):
                self.refused(NoMember, thing, ask, *things)
            for ask, things in asked(free(*THREE), (("anna", thing, False),)):
                self.refused(NoMember, thing, ask, *things)

    def test_more_than_ten(self):
        for size in (11, 12, 24):
            for known in (None, (), (("aa", "ab", True),), (("aa", "ab", True), ("aa", "ac", True))):
                for ask, things in asked(free(*letters(size)), known):
                    self.refused(TooMany, size, ask, *things)
            for ask, things in asked(only(letters(size), set()), None):
                self.refused(TooMany, size, ask, *things)

    def test_ten_are_not_too_many(self):
        circle = free(*letters(10))
        self.assertEqual(many(circle), 1334961)
        self.refused(NoNumber, None, kth, circle, None)
        self.refused(NoDrawing, Drawing(()), number_of, circle, Drawing(()))

    def test_what_is_handed_in_stays(self):
        circle, known = few_bars(), (("aa", "ac", True), ("ab", "ad", False))
        drawing = kth(circle, 5, known)
        pairs = drawing.pairs
        for ask, things in asked(circle, known):
            try:
                ask(*things)
            except (NoNumber, NoDrawing):
                pass
        self.assertEqual(number_of(circle, drawing, known), 5)
        self.assertEqual(circle, few_bars())
        self.assertEqual(known, (("aa", "ac", True), ("ab", "ad", False)))
        self.assertEqual(drawing.pairs, pairs)

    def test_what_is_told_stays(self):
        first = kth(free(*THREE), 0)
        first.pairs = ()
        self.assertEqual(kth(free(*THREE), 0).pairs, drawings_of(free(*THREE))[0])
        self.assertEqual(drawn(free(*THREE), 2).pairs, drawings_of(free(*THREE))[0])


if __name__ == "__main__":
    unittest.main()
