"""shows_years: a look at the drawings of years, and at who shows that there are no more, whoever made them."""

import copy
import random
import unittest
from itertools import combinations

from lotgivers.circles import Circle
from lotgivers.drawings import Drawing
from lotgivers.yearlooks import shows_years
from lotgivers.years import years
from test_years import out_of, turned_by
from things import (
    Asking, Odd, Touchy, all_pairs, chance_circle, drawings_of, free, letters, oddities, only, pairs_by, subsets,
)

FOUR = ("anna", "bert", "cleo", "dora")
# Each gives to the next one, or to the one behind that one: two years, and no third one.
ROUND = only(FOUR, turned_by(FOUR, [1, 2]))
NEXT = Drawing(tuple(sorted(turned_by(FOUR, [1]))))
OVER = Drawing(tuple(sorted(turned_by(FOUR, [2]))))
MIXED = Drawing((("anna", "bert"), ("bert", "dora"), ("cleo", "anna"), ("dora", "cleo")))


def shown(circle, drawings, givers, takers):
    """Whether these show it, by the words of the document; rows of drawings and tuples of names being handed in."""
    may = pairs_by(circle, ())
    pairs = [pair for rows in drawings for pair in rows]
    for names in (givers, takers):
        if list(names) != sorted(set(names)) or not set(names) <= set(circle.names()):
            return False
    return (
        list(drawings) == sorted(drawings)
        and all(tuple(giver for giver, _ in rows) == circle.names() and set(rows) <= set(may) for rows in drawings)
        and len(pairs) == len(set(pairs)) and len(drawings) == len(set(drawings))
        and out_of(may, givers, takers) < (len(drawings) + 1) * (len(givers) - len(takers))
    )


class Looking(Asking):
    def check(self, circle, drawings, givers, takers, told):
        for _ in range(2):
            self.assertIs(shows_years(circle, drawings, givers, takers), told, (drawings, givers, takers))

    def looked_at(self, circle, drawings, givers, takers):
        """Whether the look tells what the document's words tell; of rows of drawings."""
        told = shown(circle, drawings, givers, takers)
        self.check(circle, tuple(Drawing(rows) for rows in drawings), givers, takers, told)
        return told


class TestShows(Looking):
    def test_what_years_tells(self):
        for seed in range(150):
            circle = chance_circle("abcdefgh"[:1 + seed % 8], seed)
            self.check(circle, *years(circle), True)

    def test_all_of_some_circles_of_three(self):
        found = 0
        for may in subsets(all_pairs("abc"))[::2]:
            circle = only("abc", may)
            drawings = drawings_of(circle)
            for some in subsets(drawings):
                for givers in subsets("abc"):
                    for takers in subsets("abc"):
                        found += self.looked_at(circle, some, givers, takers)
        self.assertGreater(found, 50)

    def test_of_circles_of_four_and_five(self):
        found = 0
        for seed in range(60):
            circle = chance_circle("abcde"[:4 + seed % 2], seed)
            names = circle.names()
            told, givers, takers = years(circle)
            rows = [drawing.pairs for drawing in told]
            for many in (len(rows) - 1, len(rows), len(rows) + 1):
                for some in list(combinations(drawings_of(circle)[:8], max(0, many)))[:12]:
                    found += self.looked_at(circle, some, givers, takers)
            for other in subsets(names):
                found += self.looked_at(circle, rows, other, takers)
                found += self.looked_at(circle, rows, givers, other)
                found += self.looked_at(circle, rows, other, ())
        self.assertGreater(found, 100)

    def test_nobody(self):
        nobody = Circle((), (("anna", "bert"),))
        for drawings in ((), (Drawing(()),), (Drawing(()), Drawing(())), (NEXT,)):
            for givers in ((), ("anna",), ("",)):
                for takers in ((), ("anna",), None):
                    self.check(nobody, drawings, givers, takers, False)

    def test_one(self):
        for gap in (0, 1):
            one = Circle((("anna", ""),), gap=gap)
            self.check(one, (), ("anna",), (), True)
            self.check(one, (), (), (), False)
            self.check(one, (), ("anna",), ("anna",), False)
            self.check(one, (Drawing((("anna", "anna"),)),), ("anna",), (), False)
            self.check(one, (), (), ("anna",), False)

    def test_seventeen_to_twenty_four_members(self):
        for many in range(17, 25):
            names = letters(many)
            for steps in ([1], [1, 2, 3, many - 1], range(1, many)):
                circle = only(names, turned_by(names, steps))
                rows = sorted(tuple(sorted(turned_by(names, [step]))) for step in steps)
                drawings = tuple(Drawing(one) for one in rows)
                self.check(circle, drawings, (names[3],), (), True)
                self.check(circle, drawings, tuple(names), tuple(names[:many - 1]), True)
                self.check(circle, drawings, tuple(names), tuple(names), False)
                self.check(circle, drawings[1:], (names[3],), (), False)
                self.check(circle, drawings, (), (), False)
                self.check(circle, (*drawings, drawings[-1]), (names[3],), (), False)
                missing = only(names, turned_by(names, steps) - {drawings[0].pairs[7]})
                self.check(missing, drawings, (names[3],), (), False)
                self.check(missing, drawings[1:], (names[7],), (), True)

    def test_twenty_four_members_of_two_houses(self):
        names = letters(24)
        circle = Circle(tuple((name, "elm" if at < 12 else "") for at, name in enumerate(names)))
        far = tuple(Drawing(tuple(sorted(
            {(names[at], names[12 + (at + step) % 12]) for at in range(12)}
            | {(names[12 + at], names[(at + step) % 12]) for at in range(12)}
        ))) for step in range(12))
        drawings = tuple(sorted(far, key=lambda drawing: drawing.pairs))
        self.check(circle, drawings, (names[0],), (), True)
        self.check(circle, drawings, tuple(names[:12]), (), True)
        self.check(circle, drawings, (names[23],), (), False)
        self.check(circle, far, (names[0],), (), far == drawings)

    def test_by_name_in_any_order(self):
        told = {"circle": ROUND, "drawings": (NEXT, OVER), "givers": ("anna",), "takers": ()}
        self.in_any_order(True, shows_years, **told)
        self.in_any_order(False, shows_years, **{**told, "takers": ("bert",)})


class TestOtherwise(Looking):
    def test_drawings_otherwise(self):
        self.check(ROUND, (NEXT, OVER), ("anna",), (), True)
        self.assertEqual(years(ROUND)[0], (NEXT, OVER))
        for drawings in [
            (), (NEXT,), (OVER,), (OVER, NEXT), (NEXT, NEXT), (NEXT, NEXT, OVER), (NEXT, OVER, OVER), (NEXT, MIXED),
            (MIXED, OVER), (NEXT, OVER, MIXED), (NEXT, MIXED, OVER),
            [NEXT, OVER], {NEXT.pairs: OVER}, (str(NEXT), str(OVER)), (NEXT.pairs, OVER.pairs), (NEXT, OVER.pairs),
            ([NEXT], [OVER]), ((NEXT, OVER),), (NEXT, None), (NEXT, OVER, None), NEXT, None, "", str(NEXT),
            (Drawing(()), NEXT, OVER), (Drawing(()),), (NEXT, Drawing(OVER.pairs[:0])), (ROUND, ROUND),
            (NEXT, Drawing((("anna", "dora"), ("bert", "anna"), ("cleo", "bert"), ("dora", "cleo")))),
            (NEXT, Drawing((("anna", "cleo"), ("bert", "bert"), ("cleo", "anna"), ("dora", "dora")))),
            (NEXT, Drawing((("anna", "cleo"), ("bert", "emil"), ("cleo", "anna"), ("emil", "bert")))),
            (NEXT, Drawing((("anna", "cleo"), ("cleo", "anna")))),
            (NEXT, Drawing((*OVER.pairs, ("emil", "emil")))),
        ]:
            self.check(ROUND, drawings, ("anna",), (), False)

    def test_givers_and_takers_otherwise(self):
        many = 0
        for givers in subsets(FOUR):
            for takers in subsets(FOUR):
                many += self.looked_at(ROUND, (NEXT.pairs, OVER.pairs), givers, takers)
        self.assertGreater(many, 4)
        self.check(ROUND, (NEXT, OVER), FOUR, ("bert",), True)
        for givers, takers in [
            ((), ("anna",)), (("anna", "zoe"), ()), (("zoe",), ()), (("Anna",), ()), (["anna"], ()), (("anna",), []),
            ({"anna"}, ()), ({"anna": 1}, ()), ("anna", ()), (("anna",), ""), (("anna",), "anna"), (None, ()),
            (("anna",), None), (("anna", "anna"), ()), (("bert", "anna"), ()), (("cleo", "anna"), ("bert",)),
            (FOUR, ("zoe",)), (FOUR, ("bert", "anna")), (FOUR, ("bert", "bert")), (FOUR, ["bert"]), (FOUR, (None,)),
            ((*FOUR, "zoe"), ("bert",)), (FOUR, ("",)), ((*FOUR, None), ("bert",)), ((FOUR,), ()), (FOUR[::-1], ()),
        ]:
            self.check(ROUND, (NEXT, OVER), givers, takers, False)

    def test_names_of_the_bars_are_no_members(self):
        circle = Circle(tuple((name, "") for name in FOUR), (("anna", "zoe"), ("zoe", "anna"), ("zoe", "bert")))
        drawings, givers, takers = years(circle)
        self.check(circle, drawings, givers, takers, True)
        self.check(circle, drawings, (*givers, "zoe"), takers, False)
        self.check(circle, drawings, givers, (*takers, "zoe"), False)

    def test_things_of_all_kinds(self):
        for thing in oddities():
            self.check(ROUND, (NEXT, OVER), ("anna",), thing, False)
            self.check(ROUND, (NEXT, OVER), thing, (), False)
            self.check(ROUND, thing, ("anna",), (), False)
            self.check(ROUND, thing, thing, thing, False)
            self.check(ROUND, (thing,), ("anna",), (), False)
            self.check(ROUND, (NEXT, thing), ("anna",), (), False)
            self.check(ROUND, (NEXT, OVER, thing), ("anna",), (), False)
            self.check(ROUND, (NEXT, OVER), (thing,), (), False)
            self.check(ROUND, (NEXT, OVER), ("anna", thing), (), False)
            self.check(ROUND, (NEXT, OVER), FOUR, ("bert", thing), False)
            self.check(Circle(()), thing, (), (), False)
        for odd in (Odd(), Touchy()):
            self.check(ROUND, (odd, odd), ("anna",), (), False)
            self.check(ROUND, (NEXT, OVER), (odd, odd), (odd,), False)

    def test_what_is_handed_in_stays(self):
        drawings, givers, takers = [NEXT, OVER], ["anna"], []
        before = copy.deepcopy((drawings, givers, takers))
        self.check(ROUND, drawings, givers, takers, False)
        self.check(ROUND, tuple(drawings), tuple(givers), tuple(takers), True)
        self.assertEqual((drawings, givers, takers), before)
        self.assertEqual(ROUND, only(FOUR, turned_by(FOUR, [1, 2])))

    def test_a_drawing_of_many_left_out_or_exchanged(self):
        chance = random.Random(5)
        for many in (6, 11, 16):
            names = letters(many)
            drawings, givers, takers = years(free(*names))
            self.check(free(*names), drawings, givers, takers, True)
            for at in chance.sample(range(many - 1), 3):
                self.check(free(*names), drawings[:at] + drawings[at + 1:], givers, takers, False)
                self.check(free(*names), drawings[:at] + drawings[at:at + 1] + drawings[at:], givers, takers, False)
            self.check(free(*names), drawings[1:2] + drawings[:1] + drawings[2:], givers, takers, False)


if __name__ == "__main__":
    unittest.main()
