"""shows_tells: a look at what is told of a pair, whoever told it."""

import copy
import unittest
from itertools import permutations

from lotgivers.circles import Circle
from lotgivers.drawings import Drawing
from lotgivers.errors import NoMember
from lotgivers.telling import tells
from lotgivers.tellooks import shows_tells
from things import (
    Asking, Odd, Touchy, all_pairs, chance_circle, counted, drawings_of, free, knowledge, letters, no_names, only,
    pairs_by, subsets,
)

THREE = ("anna", "bert", "cleo")
WORDS = ("none", "sure", "never")
KNOWN = [
    (), (("anna", "bert", True),), (("anna", "bert", False),), (("anna", "anna", True),),
    (("anna", "bert", True), ("anna", "cleo", True)), (("anna", "bert", False), ("cleo", "bert", False)),
]


def lot_pairs(circle, known, giver, taker, word):
    """The pairs by which a lot with this word is counted."""
    pairs = pairs_by(circle, known)
    if word == "sure":
        return [pair for pair in pairs if pair != (giver, taker)]
    if word == "never":
        return [pair for pair in pairs if pair == (giver, taker) or (pair[0] != giver and pair[1] != taker)]
    return pairs


class Looking(Asking):
    def check(self, circle, known, giver, taker, thing, shown):
        for _ in range(2):
            self.assertIs(shows_tells(circle, known, giver, taker, thing), shown, (known, giver, taker, thing))

    def check_lots(self, circle, known, giver, taker):
        """Every lot there is, with every word."""
        for word in WORDS:
            pairs = lot_pairs(circle, known, giver, taker, word)
            for lot in subsets(circle.names()):
                self.check(circle, known, giver, taker, (word, lot), counted(lot, pairs))

    def check_drawings(self, circle, known, giver, taker):
        """Every two drawings of the circle's names, those that keep and those that don't."""
        names = circle.names()
        fitting = drawings_of(circle, known)
        every = [tuple(zip(names, takers)) for takers in permutations(names)]
        for first in every:
            for second in every:
                shown = (
                    first in fitting and second in fitting
                    and (giver, taker) in first and (giver, taker) not in second
                )
                self.check(circle, known, giver, taker, ("open", Drawing(first), Drawing(second)), shown)


class TestShows(Looking):
    def test_what_tells_tells(self):
        for seed in range(60):
            names = "abcdef"[:2 + seed % 5]
            circle = chance_circle(names, seed) if seed % 2 else free(*names)
            known = knowledge(names, seed, seed % 4)
            for giver in names:
                for taker in names:
                    self.check(circle, known, giver, taker, tells(circle, known, giver, taker), True)

    def test_every_lot_of_circles_of_three(self):
        for pairs in subsets(all_pairs(THREE))[::3]:
            for giver in THREE:
                for taker in THREE:
                    self.check_lots(only(THREE, pairs), (), giver, taker)

    def test_every_lot_by_what_is_known(self):
        for known in KNOWN:
            for giver in THREE:
                for taker in THREE:
                    self.check_lots(free(*THREE), known, giver, taker)

    def test_every_two_drawings(self):
        for known in KNOWN:
            for giver, taker in [("anna", "bert"), ("bert", "anna"), ("cleo", "bert"), ("anna", "anna")]:
                self.check_drawings(free(*THREE), known, giver, taker)
        self.check_drawings(free(*"abcd", bars=(("a", "b"), ("c", "d"))), (("a", "d", False),), "a", "c")
        self.check_drawings(free("anna"), (), "anna", "anna")

    def test_sure_and_never_where_no_drawing_fits(self):
        circle = free("anna", "bert", "cleo", bars=(("anna", "bert"), ("anna", "cleo")))
        for giver in THREE:
            for taker in THREE:
                for word in WORDS:
                    self.check(circle, (), giver, taker, (word, ("anna",)), True)

    def test_one_word_s_lot_with_another_word(self):
        circle, known = free(*THREE), (("anna", "bert", True),)
        told = tells(circle, known, "bert", "cleo")
        self.assertEqual(told[0], "sure")
        for word in ("none", "never", "open", "Sure", "sure ", "", "surely", "sur", b"sure", None, True, 0, ("sure",)):
            self.check(circle, known, "bert", "cleo", (word, told[1]), False)

    def test_by_other_knowledge_or_of_another_pair(self):
        told = tells(free(*THREE), (("anna", "bert", True),), "bert", "cleo")
        self.check(free(*THREE), (("anna", "bert", True),), "bert", "cleo", told, True)
        self.check(free(*THREE), (), "bert", "cleo", told, False)
        self.check(free(*THREE), (("anna", "bert", True),), "cleo", "bert", ("sure", ("bert",)), False)
        told = tells(free(*THREE), (), "anna", "bert")
        self.check(free(*THREE), (), "anna", "bert", told, True)
        self.check(free(*THREE), (), "bert", "anna", told, False)
        self.check(free(*THREE), (("anna", "bert", True),), "anna", "bert", told, False)
        self.check(free(*THREE), (("anna", "bert", False),), "anna", "bert", told, False)
        self.check(free(*THREE, bars=(("bert", "cleo"),)), (), "anna", "bert", told, False)

    def test_none_known(self):
        for thing in [tells(free(*THREE), None, "anna", "bert"), ("none", ("anna",)), None]:
            shown = shows_tells(free(*THREE), (), "anna", "bert", thing)
            self.check(free(*THREE), None, "anna", "bert", thing, shown)

    def test_by_name_in_any_order(self):
        known = (("anna", "bert", True),)
        for thing, shown in [(("sure", ("bert", "cleo")), True), (("never", ("bert", "cleo")), False), (None, False)]:
            for order in permutations([
                ("circle", free(*THREE)), ("known", known), ("giver", "bert"), ("taker", "cleo"), ("thing", thing),
            ]):
                self.assertIs(shows_tells(**dict(order)), shown)

    def test_twenty_four_members(self):
        names = letters(24)
        circle = Circle(tuple((name, "elm" if at < 12 else "oak") for at, name in enumerate(names)))
        known = tuple((names[0], taker, False) for taker in names[12:23])
        for facts in ((), known):
            for giver, taker in [(0, 1), (0, 12), (0, 23), (1, 23), (13, 0), (23, 23)]:
                told = tells(circle, facts, names[giver], names[taker])
                self.check(circle, facts, names[giver], names[taker], told, True)
                self.check(circle, facts, names[giver], names[taker], told[:1], False)
        self.check(circle, known, names[0], names[23], ("sure", (names[0],)), True)
        self.check(circle, known, names[0], names[22], ("sure", (names[0],)), False)
        self.check(circle, known, names[1], names[23], ("never", (names[0],)), True)
        self.check(circle, known, names[1], names[23], ("never", (names[0], names[1])), True)
        self.check(circle, known, names[1], names[23], ("never", (names[1],)), False)


class TestOtherwise(Looking):
    def test_lots_otherwise(self):
        circle = only(THREE, {("cleo", "anna")})
        for word in WORDS:
            self.check(circle, (), "anna", "bert", (word, ("anna", "bert")), True)
            for lot in [
                ("bert", "anna"), ("anna", "anna"), ("anna", "bert", "bert"), ("anna", "zoe"), ("zoe",),
                ("aaa", "anna"), ("anna", "Bert"), ["anna", "bert"], {"anna": 1, "bert": 2}, {"anna", "bert"}, "anna",
                ("anna", None),
                (("anna", "bert"),), (b"anna",), ("anna", ["bert"]), ("cleo", "anna", "bert"), (), [], None,
                Drawing(()), frozenset(["anna"]),
            ]:
                self.check(circle, (), "anna", "bert", (word, lot), False)

    def test_names_of_bars_are_no_members(self):
        circle = free("anna", "bert", bars=(("anna", "zoe"), ("zoe", "anna")))
        for word in WORDS:
            self.check(circle, (), "anna", "bert", (word, ("zoe",)), False)
            self.check(circle, (), "anna", "bert", (word, ("bert", "zoe")), False)

    def test_lengths_and_kinds(self):
        circle, known = free(*THREE), (("anna", "bert", True),)
        good = ("sure", ("bert", "cleo"))
        self.check(circle, known, "bert", "cleo", good, True)
        for thing in [
            (), good[:1], good[1:], (*good, ()), (*good, good[1]), (*good, None), list(good), dict([good]), (good,),
            ("sure", ["bert", "cleo"]), ("sure", ("cleo", "bert")), ("sure", ("bert",)), "sure", good * 2, good[::-1],
        ]:
            self.check(circle, known, "bert", "cleo", thing, False)

    def test_no_other_word_stands_ahead_of_a_lot(self):
        # The lot of anna alone counts for each of the three words that have one.
        circle = only(THREE, set())
        for word in WORDS:
            self.check(circle, (), "anna", "bert", (word, ("anna",)), True)
        for word in ["", "open", "None", "none ", "nones", "lot", "surely", "anna", "none\n", "NEVER"]:
            self.check(circle, (), "anna", "bert", (word, ("anna",)), False)
            self.check(circle, (), "anna", "bert", (word, THREE), False)

    def test_open_otherwise(self):
        circle = free(*THREE)
        word, drawing, other = tells(circle, (), "anna", "bert")
        self.check(circle, (), "anna", "bert", (word, drawing, other), True)
        for thing in [
            (word, other, drawing), (word, drawing, drawing), (word, other, other), (word, drawing), (word, other),
            (word,), (word, drawing, other, other), (word, drawing, other, None), [word, drawing, other],
            (word, drawing.pairs, other.pairs), (word, drawing, other.pairs), (word, drawing.pairs, other),
            (word, str(drawing), str(other)), (word, drawing, None), (word, None, other), (word, drawing, ("anna",)),
            ("sure", drawing, other), ("none", drawing, other), ("Open", drawing, other), (None, drawing, other),
            (drawing, other), (drawing, other, word), (word, (drawing, other)), (word, drawing, Circle(())),
            (word, drawing, Drawing(())), (word, Drawing((("anna", "bert"), ("bert", "anna"))), other),
            (word, drawing, Drawing((("bert", "cleo"), ("cleo", "bert")))),
            (word, drawing, Drawing((("anna", "cleo"), ("bert", "anna"), ("cleo", "dora"), ("dora", "bert")))),
            (word, drawing, Drawing((("anna", "cleo"), ("bert", "bert"), ("cleo", "anna")))),
            (word, Drawing((("anna", "bert"), ("bert", "anna"), ("cleo", "cleo"))), other),
        ]:
            self.check(circle, (), "anna", "bert", thing, False)

    def test_things_of_all_kinds(self):
        circle = free(*THREE)
        drawing = tells(circle, (), "anna", "bert")[1]
        for thing in no_names():
            self.check(circle, (), "anna", "bert", thing, False)
            self.check(circle, (), "anna", "bert", (thing, ("anna",)), False)
            self.check(circle, (), "anna", "bert", (thing, thing), False)
            self.check(circle, (), "anna", "bert", (thing, thing, thing), False)
            self.check(circle, (), "anna", "bert", (thing, drawing, drawing), False)
            self.check(circle, (), "anna", "bert", ("open", thing, drawing), False)
            self.check(circle, (), "anna", "bert", ("open", drawing, thing), False)
            for word in WORDS:
                self.check(circle, (), "anna", "bert", (word, thing), False)
                self.check(circle, (), "anna", "bert", (word, (thing,)), False)
                self.check(circle, (), "anna", "bert", (word, ("anna", thing)), False)
                self.check(circle, (), "anna", "bert", (word, ("anna",), thing), False)
        for thing in (Odd(), Touchy()):
            self.check(circle, (), "anna", "anna", ("never", thing), False)
            self.check(circle, (), "anna", "anna", (thing, ("anna",)), False)

    def test_strangers_in_what_is_known(self):
        for thing in [*no_names(), "zoe"]:
            known = ((thing, "anna", True),)
            for shown in (("none", ("anna",)), None, thing):
                self.refused(NoMember, thing, shows_tells, free(*THREE), known, "anna", "bert", shown)
        known = (("anna", "yuri", True), ("xenia", "anna", False))
        self.refused(NoMember, "yuri", shows_tells, free(*THREE), known, "anna", "bert", ("none", ("anna",)))

    def test_strangers_who_are_asked_about(self):
        # Refused as tells refuses them, so that nothing seems shown of them.
        for thing in [("never", ("anna",)), ("none", ("anna",)), None]:
            self.refused(NoMember, "zoe", shows_tells, free(*THREE), (), "zoe", "yuri", thing)
            self.refused(NoMember, "zoe", shows_tells, free(*THREE), (), "anna", "zoe", thing)

    def test_what_is_handed_in_stays(self):
        circle, known = free(*THREE), (("anna", "bert", True),)
        for thing in [("sure", ["bert", "cleo"]), ["sure", ("bert", "cleo")], {"sure": ["bert"]}]:
            before = copy.deepcopy(thing)
            self.check(circle, known, "bert", "cleo", thing, False)
            self.assertEqual(thing, before)
        told = tells(circle, (), "anna", "bert")
        pairs = (told[1].pairs, told[2].pairs)
        self.check(circle, (), "anna", "bert", told, True)
        self.assertEqual((told[1].pairs, told[2].pairs), pairs)
        self.assertEqual(circle, free(*THREE))
        self.assertEqual(known, (("anna", "bert", True),))


if __name__ == "__main__":
    unittest.main()
