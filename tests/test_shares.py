"""Share, and share: the exact part of the drawings that have a pair."""

import unittest
from fractions import Fraction

from lotgivers.circles import Circle
from lotgivers.counting import counts, many
from lotgivers.drawings import Drawing
from lotgivers.errors import NoMember, NoNumber, TooMany
from lotgivers.shares import Share, share
from things import (
    Asking, Odd, Touchy, all_pairs, chance_circle, drawings_of, free, knowledge, letters, no_names, only,
)

THREE = ("anna", "bert", "cleo")
SMALL = [(part, whole) for whole in range(1, 13) for part in range(whole + 1)]
BIG = 10 ** 60 - 1


class TestShare(unittest.TestCase):
    def test_lowest_terms(self):
        for part, whole in SMALL:
            exact = Fraction(part, whole)
            for made in (Share(part, whole), Share(part=part, whole=whole), Share(whole=whole, part=part)):
                self.assertEqual((made.part, made.whole), (exact.numerator, exact.denominator))
                self.assertEqual(vars(made), {"part": exact.numerator, "whole": exact.denominator})
                self.assertIs(type(made.part), int)

    def test_of_none_and_of_all(self):
        for whole in (1, 2, 7, 10 ** 59, BIG):
            self.assertEqual((Share(0, whole).part, Share(0, whole).whole), (0, 1))
            self.assertEqual((Share(whole, whole).part, Share(whole, whole).whole), (1, 1))

    def test_of_sixty_figures(self):
        for part, whole, told in [
            (10 ** 59, 2 * 10 ** 59, (1, 2)), (BIG - 1, BIG, (BIG - 1, BIG)), (BIG // 3, BIG, (1, 3)),
            (1, BIG, (1, BIG)), (3, BIG, (1, BIG // 3)),
            (3 ** 100 * 5 ** 10, 3 ** 101 * 5 ** 12, (1, 75)),
        ]:
            self.assertEqual((Share(part, whole).part, Share(part, whole).whole), told)

    def test_str_and_repr(self):
        for part, whole, figures in [
            (0, 1, ("0", "1")), (0, 9, ("0", "1")), (1, 1, ("1", "1")), (5, 5, ("1", "1")), (2, 4, ("1", "2")),
            (6, 9, ("2", "3")), (1, BIG, ("1", "9" * 60)),
        ]:
            self.assertEqual(str(Share(part, whole)), "/".join(figures))
            self.assertEqual(repr(Share(part, whole)), "Share(" + ", ".join(figures) + ")")

    def test_equal_where_the_values_are(self):
        for one in SMALL:
            for other in SMALL:
                same = one[0] * other[1] == other[0] * one[1]
                self.assertIs(Share(*one) == Share(*other), same)
                self.assertIs(Share(*one) != Share(*other), not same)

    def test_equal_to_nothing_else(self):
        for made in (Share(0, 1), Share(1, 1), Share(1, 2)):
            for thing in [*no_names(), (1, 2), "1/2", Fraction(1, 2), Fraction(1), Fraction(0), Drawing(())]:
                self.assertIs(made == thing, False)
                self.assertIs(made != thing, True)
                if not isinstance(thing, (Odd, Touchy)):
                    self.assertIs(thing == made, False)

    def test_more_than(self):
        for one in SMALL:
            for other in SMALL:
                greater = Fraction(*one) > Fraction(*other)
                self.assertIs(Share(*one).more_than(Share(*other)), greater)
                self.assertIs(Share(*one).more_than(other=Share(*other)), greater)

    def test_more_than_by_a_hair(self):
        low, high = Share(BIG // 3, BIG - 1), Share(BIG // 3, BIG - 2)
        self.assertIs(high.more_than(low), True)
        self.assertIs(low.more_than(high), False)
        self.assertIs(low.more_than(low), False)
        self.assertIs(Share(BIG - 1, BIG).more_than(Share(BIG - 2, BIG - 1)), True)
        self.assertIs(Share(1, 1).more_than(Share(BIG - 1, BIG)), True)

    def test_stay_as_they_were(self):
        one, other = Share(2, 6), Share(1, 2)
        for _ in range(2):
            self.assertIs(other.more_than(one), True)
            self.assertEqual((repr(one), repr(other)), ("Share(1, 3)", "Share(1, 2)"))


class TestOfDrawings(Asking):
    def check(self, circle, known):
        told = drawings_of(circle, known)
        names = circle.names()
        for giver in names:
            for taker in names:
                if not told:
                    self.refused(NoNumber, 0, share, circle, giver, taker, known)
                    continue
                exact = Fraction(len([pairs for pairs in told if (giver, taker) in pairs]), len(told))
                for _ in range(2):
                    found = share(circle, giver, taker, known)
                    self.assertIs(type(found), Share)
                    self.assertEqual((found.part, found.whole), (exact.numerator, exact.denominator))
                if known == ():
                    self.assertEqual(share(circle, giver, taker), found)
                    self.assertEqual(share(circle, giver, taker, None), found)

    def test_of_all_drawings_gone_through(self):
        for circle in (Circle(()), free("anna"), free("anna", "bert"), free(*THREE), free(*"abcd")):
            self.check(circle, ())
        for seed in range(40):
            names = "abcde"[:2 + seed % 4]
            circle = chance_circle(names, seed) if seed % 2 else free(*names)
            self.check(circle, knowledge(names, seed, seed % 4))

    def test_of_none_and_of_all(self):
        circle = free(*THREE)
        for giver, taker in all_pairs(THREE):
            for known, part in [
                ((), (1, 2)), (((giver, taker, True),), (1, 1)), (((giver, taker, False),), (0, 1)),
            ]:
                found = share(circle, giver, taker, known)
                self.assertEqual((found.part, found.whole), part)
            self.assertEqual(share(circle, giver, giver), Share(0, 1))

    def test_by_name_in_any_order(self):
        known = (("bert", "dora", True),)
        circle = free("anna", "bert", "cleo", "dora")
        self.in_any_order(Share(1, 3), share, circle=circle, giver="anna", taker="cleo")
        self.in_any_order(Share(1, 3), share, circle=circle, giver="anna", taker="bert", known=None)
        self.in_any_order(Share(0, 1), share, circle=circle, giver="anna", taker="dora", known=known)
        self.in_any_order(Share(1, 3), share, circle=circle, giver="dora", taker="bert", known=known)

    def test_giver_and_taker_are_not_exchanged(self):
        circle = free(*"abcd", bars=(("a", "b"),))
        self.assertEqual(share(circle, "a", "b"), Share(0, 1))
        self.assertTrue(share(circle, "b", "a").more_than(Share(0, 1)))

    def test_of_ten(self):
        self.assertEqual(share(free(*letters(10)), "aa", "aj"), Share(1, 9))
        circle = free(*letters(10), bars=(("aa", "ab"), ("ab", "aa"), ("ac", "ad"), ("aj", "ai")))
        for giver, taker, ways in counts(circle)[::9]:
            self.assertEqual(share(circle, giver, taker), Share(ways, many(circle)))

    def test_no_drawing(self):
        self.refused(NoNumber, 0, share, free("anna"), "anna", "anna")
        for known in [
            (("anna", "bert", True), ("anna", "cleo", True)), (("anna", "anna", True),),
            (("anna", "bert", False), ("anna", "cleo", False)),
        ]:
            self.refused(NoNumber, 0, share, free(*THREE), "bert", "cleo", known)
        self.refused(NoNumber, 0, share, only(letters(10), set()), "aa", "ab")

    def test_strangers_of_any_kind(self):
        for thing in [*no_names(), "zoe", "annaa"]:
            self.refused(NoMember, thing, share, free(*THREE), thing, "anna")
            self.refused(NoMember, thing, share, free(*THREE), "anna", thing)
            self.refused(NoMember, thing, share, free(*THREE), thing, "zoe")
            self.refused(NoMember, thing, share, free(*THREE), "anna", "anna", ((thing, "anna", True),))

    def test_the_first_of_several_refusals(self):
        known = (("anna", "yuri", True), ("xenia", "anna", False))
        hopeless = (("aa", "ab", True), ("aa", "ac", True))
        for circle in (Circle(()), free("anna"), free(*THREE), free(*letters(11), "anna")):
            anna = "anna" if len(circle) else "yuri"
            facts = known if len(circle) else (("yuri", "anna", True),)
            self.refused(NoMember, "yuri", share, circle, "zoe", None, facts)
            self.refused(NoMember, "yuri", share, circle, anna, anna, facts)
            self.refused(NoMember, "zoe", share, circle, "zoe", "xenia")
        for size in (11, 24):
            circle = free(*letters(size))
            for facts in ((), hopeless):
                self.refused(NoMember, "zoe", share, circle, "zoe", "aa", facts)
                self.refused(NoMember, "zoe", share, circle, "aa", "zoe", facts)
                self.refused(TooMany, size, share, circle, "aa", "ab", facts)
                self.refused(TooMany, size, share, circle, "aa", "aa", facts)
        self.refused(NoMember, "zoe", share, free(*letters(10)), "aa", "zoe", hopeless)
        self.refused(NoNumber, 0, share, free(*letters(10)), "aa", "ab", hopeless)

    def test_what_is_handed_in_stays(self):
        circle, known = free(*THREE), (("anna", "bert", True),)
        share(circle, "anna", "bert", known)
        self.assertEqual(circle, free(*THREE))
        self.assertEqual(known, (("anna", "bert", True),))


if __name__ == "__main__":
    unittest.main()
