"""tells: sure, never, open or none, its lot counted and its drawings looked at here."""

import random
import unittest

from lotgivers.circles import Circle
from lotgivers.drawings import Drawing
from lotgivers.errors import NoMember
from lotgivers.telling import tells
from things import (
    Asking, all_pairs, chance_circle, drawings_of, free, knowledge, letters, no_names, only, pairs_by, subsets,
)

THREE = ("anna", "bert", "cleo")


class Telling(Asking):
    def look(self, circle, known, giver, taker, told):
        """That what is told shows what its word says."""
        self.assertIs(type(told), tuple)
        pairs = pairs_by(circle, known)
        if told[0] == "open":
            _, drawing, other = told
            for one in (drawing, other):
                self.assertIs(type(one), Drawing)
                self.assertEqual(one.names(), circle.names())
                self.assertTrue(set(one.pairs) <= set(pairs))
                for row in known:
                    self.assertIs(row[:2] in one.pairs, row[2])
            self.assertIn((giver, taker), drawing.pairs)
            self.assertNotIn((giver, taker), other.pairs)
            return
        word, lot = told
        if word == "sure":
            pairs = [pair for pair in pairs if pair != (giver, taker)]
        elif word == "never":
            pairs = [pair for pair in pairs if (pair[0] == giver) == (pair[1] == taker)]
        else:
            self.assertEqual(word, "none")
        self.is_lot(circle, lot, pairs)

    def check(self, circle, known, giver, taker, word):
        told = tells(circle, known, giver, taker)
        self.assertEqual(told[0], word, (str(circle), known, giver, taker))
        self.look(circle, known, giver, taker, told)
        self.assertEqual(tells(circle, known, giver, taker), told)
        return told

    def check_all(self, circle, known):
        """Of each pair, by all drawings gone through."""
        fitting = drawings_of(circle, known)
        for giver in circle.names():
            for taker in circle.names():
                having = len([pairs for pairs in fitting if (giver, taker) in pairs])
                word = "never" if having == 0 else "sure" if having == len(fitting) else "open"
                self.check(circle, known, giver, taker, word if fitting else "none")


class TestTells(Telling):
    def test_each_word(self):
        circle = free(*THREE)
        self.check(circle, (), "anna", "bert", "open")
        self.check(circle, (), "anna", "anna", "never")
        self.check(circle, (("anna", "bert", True),), "anna", "bert", "sure")
        self.check(circle, (("anna", "bert", True),), "bert", "cleo", "sure")
        self.check(circle, (("anna", "bert", True),), "bert", "anna", "never")
        self.check(circle, (("anna", "bert", False),), "cleo", "bert", "sure")
        self.check(circle, (("anna", "bert", False),), "anna", "bert", "never")
        self.check(free("anna"), (), "anna", "anna", "none")

    def test_the_drawings_of_open(self):
        word, drawing, other = tells(free(*THREE), (), "anna", "cleo")
        self.assertEqual(word, "open")
        self.assertEqual(drawing.pairs, (("anna", "cleo"), ("bert", "anna"), ("cleo", "bert")))
        self.assertEqual(other.pairs, (("anna", "bert"), ("bert", "cleo"), ("cleo", "anna")))

    def test_none(self):
        for known in [
            (("anna", "bert", True), ("anna", "cleo", True)), (("anna", "cleo", True), ("bert", "cleo", True)),
            (("anna", "anna", True),), (("anna", "bert", False), ("anna", "cleo", False)),
            (("anna", "bert", True), ("bert", "anna", True)),
        ]:
            for giver in THREE:
                for taker in THREE:
                    self.check(free(*THREE), known, giver, taker, "none")
        circle = free(*THREE, bars=(("anna", "bert"),))
        self.check(circle, (("anna", "bert", True),), "anna", "bert", "none")

    def test_none_known(self):
        for giver, taker in [("anna", "bert"), ("anna", "anna")]:
            self.assertEqual(tells(free(*THREE), None, giver, taker), tells(free(*THREE), (), giver, taker))

    def test_by_name_in_any_order(self):
        known = (("anna", "bert", False),)
        for taker in ("anna", "bert", "cleo"):
            told = self.check(free(*THREE), known, "anna", taker, "sure" if taker == "cleo" else "never")
            self.in_any_order(told, tells, circle=free(*THREE), known=known, giver="anna", taker=taker)
        told = tells(free(*THREE), (), "anna", "bert")
        self.in_any_order(told, tells, circle=free(*THREE), known=None, giver="anna", taker="bert")

    def test_all_circles_of_three(self):
        for pairs in subsets(all_pairs(THREE)):
            self.check_all(only(THREE, pairs), ())

    def test_all_knowledge_of_one_or_two_pairs_of_three(self):
        some = [(giver, taker, holds) for giver in THREE for taker in THREE for holds in (True, False)]
        for known in [known for known in subsets(some[:7] + some[12:]) if 1 <= len(known) <= 2]:
            if len({row[:2] for row in known}) == len(known):
                self.check_all(free(*THREE), tuple(sorted(known)))

    def test_circles_of_four(self):
        for pairs in subsets(all_pairs("abcd"))[::37]:
            self.check_all(only("abcd", pairs), ())

    def test_chance_circles(self):
        for seed in range(60):
            names = "abcdef"[:2 + seed % 5]
            circle = chance_circle(names, seed) if seed % 2 else free(*names)
            self.check_all(circle, knowledge(names, seed, seed % 4))

    def test_houses_and_past(self):
        circle = Circle((("a", "elm"), ("b", "elm"), ("c", "oak"), ("d", "")), (), ((("a", "c"),),), 1)
        self.check_all(circle, ())
        self.check_all(Circle(circle.members, (), circle.past, 0), ())


class TestTwentyFour(Telling):
    def test_free(self):
        names = letters(24)
        for taker in (names[1], names[23]):
            self.check(free(*names), (), names[0], taker, "open")
        self.check(free(*names), (), names[0], names[0], "never")
        self.check(free(*names), ((names[0], names[23], True),), names[0], names[23], "sure")
        self.check(free(*names), ((names[0], names[23], True),), names[1], names[23], "never")

    def test_one_of_two_hands_on_round_the_circle(self):
        # Each may take the next or the one behind that, so what one takes settles all the others.
        names = letters(24)
        pairs = {(names[at], names[(at + step) % 24]) for at in range(24) for step in (1, 2)}
        circle = only(names, pairs)
        self.check(circle, (), names[0], names[1], "open")
        known = ((names[5], names[6], True),)
        for at in range(24):
            self.check(circle, known, names[at], names[(at + 1) % 24], "sure")
            self.check(circle, known, names[at], names[(at + 2) % 24], "never")
        known = ((names[5], names[6], True), (names[17], names[18], False))
        self.check(circle, known, names[0], names[1], "none")

    def test_in_two_houses(self):
        names = letters(24)
        circle = Circle(tuple((name, "elm" if at < 12 else "oak") for at, name in enumerate(names)))
        self.check(circle, (), names[0], names[1], "never")
        self.check(circle, (), names[0], names[12], "open")
        known = tuple((names[0], taker, False) for taker in names[12:23])
        self.check(circle, known, names[0], names[23], "sure")
        self.check(circle, known, names[1], names[23], "never")

    def test_by_much_knowledge(self):
        names, chance = letters(24), random.Random(24)
        for most in (20, 200, 400, 500):
            known = tuple((*pair, False) for pair in sorted(chance.sample(all_pairs(names), most)))
            for giver, taker in chance.sample(all_pairs(names), 4):
                self.look(free(*names), known, giver, taker, tells(free(*names), known, giver, taker))


class TestRefusals(Telling):
    def test_strangers_of_any_kind(self):
        circle = free(*THREE)
        for thing in [*no_names(), "zoe", "annaa"]:
            self.refused(NoMember, thing, tells, circle, (), thing, "anna")
            self.refused(NoMember, thing, tells, circle, None, "anna", thing)
            self.refused(NoMember, thing, tells, circle, (), thing, "zoe")
            self.refused(NoMember, thing, tells, circle, ((thing, "anna", True),), "anna", "anna")
            self.refused(NoMember, thing, tells, circle, (("anna", thing, True),), "anna", "anna")

    def test_the_first_of_several_refusals(self):
        known = (("anna", "yuri", True), ("xenia", "anna", False))
        self.refused(NoMember, "yuri", tells, free(*THREE), known, "zoe", None)
        self.refused(NoMember, "yuri", tells, free(*THREE), known, "anna", "bert")
        self.refused(NoMember, "zoe", tells, free(*THREE), (), "zoe", "xenia")
        self.refused(NoMember, "zoe", tells, free(*THREE), (("anna", "anna", True),), "anna", "zoe")
        self.refused(NoMember, "anna", tells, Circle(()), (), "anna", "bert")
        self.refused(NoMember, "zoe", tells, free(*letters(24)), None, "zoe", "anna")

    def test_what_is_handed_in_stays(self):
        circle, known = free(*THREE), (("anna", "bert", True),)
        for taker in THREE:
            tells(circle, known, "anna", taker)
        self.assertEqual(circle, free(*THREE))
        self.assertEqual(known, (("anna", "bert", True),))

    def test_what_is_told_stays(self):
        told = tells(free(*THREE), (), "anna", "bert")
        told[1].pairs = ()
        self.look(free(*THREE), (), "anna", "bert", tells(free(*THREE), (), "anna", "bert"))


if __name__ == "__main__":
    unittest.main()
