"""Circles of twenty-four members: reason, takers, givers and what is asked by them, held against one another."""

import random
import unittest

from lotgivers.circles import Circle
from lotgivers.drawings import Drawing, broken, keeps
from lotgivers.errors import NoMember, TooFew
from lotgivers.fewlooks import shows_few
from lotgivers.finding import some_drawing
from lotgivers.knowing import may_by
from lotgivers.mending import come_in, fallen_out, lacking, mended
from lotgivers.mendlooks import shows_mended
from lotgivers.telling import tells
from lotgivers.tellooks import shows_tells
from things import Asking, counted, no_names, pairs_by

NAMES = tuple(letter + "a" for letter in "abcdefghijklmnopqrstuvwx")
MEMBERS = tuple((name, ["", "house", "hous"][at % 3]) for at, name in enumerate(NAMES))
EVERY_PAIR = tuple((giver, taker) for giver in NAMES for taker in NAMES)
FOURTHS = tuple(pair for pair in EVERY_PAIR if (NAMES.index(pair[0]) + NAMES.index(pair[1])) % 4 == 0)
# Bars and years may name those who are gone.
GONE = (("aa", "zoe"), ("zoe", "aa"), ("zoe", "zoe"))


def ring_year(step):
    """The year in which each one gave to the one so many places behind."""
    return tuple(zip(NAMES, NAMES[step:] + NAMES[:step]))


TEN_YEARS = tuple(ring_year(step) for step in range(1, 11))


def circles():
    """Circles of few and of many bars, with and without houses, of no, one and ten years, and several gaps."""
    chance = random.Random(24)
    odd_years = tuple(tuple(sorted({*chance.sample(EVERY_PAIR, 30), *GONE})) for _ in range(10))
    free = tuple((name, "") for name in NAMES)
    told = []
    for members in (MEMBERS, free, tuple((name, "elm") for name in NAMES)):
        for bars in ((), FOURTHS, EVERY_PAIR, EVERY_PAIR[:-1], tuple(sorted(FOURTHS + GONE))):
            for past, gap in [((), 1), ((ring_year(1),), 1), ((ring_year(1), ()), 1)]:
                told.append(Circle(members, bars, past, gap))
            for gap in (0, 1, 9, 10, 11, 10 ** 30 - 1):
                told.append(Circle(members, bars, (TEN_YEARS, odd_years)[gap % 2], gap))
                told.append(Circle(members, bars, (odd_years, TEN_YEARS)[gap % 2], gap))
    return told


def reason_by_words(circle, giver, taker):
    """The reason, looked up in all that the circle holds, by the words of the document."""
    houses = dict(circle.members)
    years = circle.past[len(circle.past) - min(circle.gap, len(circle.past)):]
    if giver == taker:
        return "self"
    if houses[giver] == houses[taker] != "":
        return "house"
    if set(circle.bars) & {(giver, taker)}:
        return "bar"
    return "past" if {(giver, taker)} & {pair for year in years for pair in year} else None


class TestAgainstOneAnother(unittest.TestCase):
    def test_reason_takers_givers(self):
        seen = set()
        for circle in circles():
            reasons = {pair: reason_by_words(circle, *pair) for pair in EVERY_PAIR}
            self.assertEqual({pair: circle.reason(*pair) for pair in EVERY_PAIR}, reasons)
            may = [pair for pair in EVERY_PAIR if reasons[pair] is None]
            for name in NAMES:
                self.assertEqual(circle.takers(name), tuple(taker for giver, taker in may if giver == name))
                self.assertEqual(circle.givers(name), tuple(giver for giver, taker in may if taker == name))
            self.assertEqual(may_by(circle, None), tuple(may))
            seen |= set(reasons.values())
        self.assertEqual(seen, {"self", "house", "bar", "past", None})

    def test_the_gap_at_its_edges(self):
        # Of ten years each bars one pair of the first member, the eldest one the next member.
        free = tuple((name, "") for name in NAMES)
        for gap, many in {0: 0, 1: 1, 9: 9, 10: 10, 11: 10, 10 ** 29: 10}.items():
            circle = Circle(free, (), TEN_YEARS, gap)
            gone = NAMES[11 - many:11]
            self.assertEqual(circle.takers("aa"), tuple(name for name in NAMES[1:] if name not in gone), gap)
            self.assertEqual([name for name in NAMES if circle.reason("aa", name) == "past"], list(gone))

    def test_nobody_may_take_anybody(self):
        for members in (MEMBERS, tuple((name, "") for name in NAMES)):
            circle = Circle(members, EVERY_PAIR, TEN_YEARS, 10)
            self.assertEqual(may_by(circle, ()), ())
            for name in NAMES:
                self.assertEqual((circle.takers(name), circle.givers(name)), ((), ()))
            self.assertTrue(shows_few(circle, ("aa",)))
            with self.assertRaises(TooFew) as caught:
                some_drawing(circle)
            self.assertTrue(shows_few(circle, caught.exception.lot))
            self.assertEqual(tells(circle, None, "aa", "ba")[0], "none")

    def test_bars_at_the_ends_of_their_tuple(self):
        free = tuple((name, "") for name in NAMES)
        for bars in [EVERY_PAIR[1:], EVERY_PAIR[:-2], EVERY_PAIR[5:6], EVERY_PAIR[1:2], EVERY_PAIR[574:575]]:
            circle = Circle(free, bars)
            for pair in EVERY_PAIR:
                told = "self" if pair[0] == pair[1] else "bar" if pair in set(bars) else None
                self.assertEqual(circle.reason(*pair), told)

    def test_keeps_and_broken(self):
        drawings = [Drawing(ring_year(step)) for step in (0, 1, 2, 5, 10, 11, 23)]
        for circle in circles():
            for drawing in drawings:
                rows = [(*pair, reason_by_words(circle, *pair)) for pair in drawing.pairs]
                wrong = tuple(row for row in rows if row[2] is not None)
                self.assertEqual(broken(circle, drawing), wrong)
                self.assertIs(keeps(circle, drawing), wrong == ())


class TestAskedByTheTenThousand(unittest.TestCase):
    def test_lots(self):
        for circle in circles()[::3]:
            may = pairs_by(circle, ())
            for many in range(25):
                self.assertIs(shows_few(circle, NAMES[:many]), counted(NAMES[:many], may))
                self.assertIs(shows_few(circle, NAMES[many:]), counted(NAMES[many:], may))

    def test_drawings_and_tellings(self):
        found = 0
        for circle in circles()[::2]:
            may = set(may_by(circle, ()))
            try:
                drawing = some_drawing(circle)
            except TooFew as refusal:
                self.assertTrue(counted(refusal.lot, may))
                self.assertIs(shows_few(circle, refusal.lot), True)
                continue
            found += 1
            self.assertTrue(set(drawing.pairs) <= may)
            for giver, taker in EVERY_PAIR[found % 40::40]:
                told = tells(circle, (), giver, taker)
                self.assertIn(told[0], ("sure", "never", "open"))
                self.assertIs(shows_tells(circle, (), giver, taker, told), True)
                for other in ("none", "sure", "never", "open"):
                    if other != told[0] and len(told) == 3:
                        self.assertIs(shows_tells(circle, (), giver, taker, (other, *told[1:])), False)
            for at in (0, 7, 23):
                less = drawing.pairs[:at] + drawing.pairs[at + 1:]
                self.assertEqual(lacking(circle, less), drawing.pairs[at])
                mend, anew, layers = mended(circle, less)
                self.assertIs(shows_mended(circle, less, mend, layers), True)
                self.assertIs(shows_mended(circle, less, mend, layers[1:]), False)
        self.assertGreater(found, 5)

    def test_falling_out_and_coming_in(self):
        circle = Circle(MEMBERS[:23], FOURTHS, (ring_year(1),), 1)
        drawing = some_drawing(circle)
        for name in NAMES[:23]:
            mend, anew, layers = fallen_out(circle, drawing, name)
            self.assertEqual(mend.names(), tuple(other for other in NAMES[:23] if other != name))
        mend, anew, layers = come_in(circle, drawing, MEMBERS[23])
        self.assertTrue(keeps(Circle(MEMBERS, FOURTHS, (ring_year(1),), 1), mend))


class TestLooksAtWhatHasNoForm(Asking):
    def test_told_at_once(self):
        for circle in (Circle(MEMBERS, FOURTHS, TEN_YEARS, 10), Circle(MEMBERS, EVERY_PAIR), Circle(())):
            for thing in [None, "", "aa", "aa\nba", (), 0, [], {}]:
                self.assertIs(shows_few(circle, thing), False)
        circle = Circle(MEMBERS, FOURTHS, TEN_YEARS, 10)
        for thing in [None, "", "none", "sure", (), ("none",), ("none", None), ("sure", "aa"), ("open", None, None)]:
            self.assertIs(shows_tells(circle, (), "aa", "ba", thing), False)

    def test_behind_the_refusals_that_are_due(self):
        circle = Circle(MEMBERS, FOURTHS, TEN_YEARS, 10)
        known = (("aa", "ba", True), ("ba", "zoe", False))
        for thing in [None, "", "none", (), ("none",), ("open", None, None)]:
            self.refused(NoMember, "zoe", shows_tells, circle, known, "yuri", "ba", thing)
            self.refused(NoMember, "yuri", shows_tells, circle, known[:1], "yuri", "xaver", thing)
            self.refused(NoMember, "xaver", shows_tells, circle, None, "aa", "xaver", thing)
        for thing in no_names():
            self.refused(NoMember, thing, shows_tells, circle, None, thing, "aa", thing)

    def test_the_first_stranger_of_known_as_it_stands(self):
        circle = Circle(MEMBERS, EVERY_PAIR)
        for ask in (may_by, lambda circle, known: tells(circle, known, "zoe", None)):
            self.refused(NoMember, "zz", ask, circle, (("aa", "zz", True), ("yy", "aa", False)))
            self.refused(NoMember, "yy", ask, circle, (("aa", "ba", True), ("yy", "zz", False)))
            self.refused(NoMember, ["aa"], ask, circle, (("aa", "ba", True), (["aa"], "zz", False)))


if __name__ == "__main__":
    unittest.main()
