"""years: as many drawings as can be, no pair in two, and who shows that there are no more."""

import copy
import random
import unittest

from lotgivers.circles import Circle
from lotgivers.drawings import Drawing, keeps
from lotgivers.errors import NoMember, TooFew, TooMany
from lotgivers.finding import some_drawing
from lotgivers.yearlooks import shows_years
from lotgivers.years import years
from things import Asking, all_pairs, chance_circle, drawings_of, free, letters, only, pairs_by, subsets


def most_apart(drawings):
    """How many of these sets of pairs there are at the most, no pair in two, by going through all sets of them."""
    if not drawings:
        return 0
    first, *others = drawings
    with_first = 1 + most_apart([rows for rows in others if not set(rows) & set(first)])
    # Without the first one there are no more than the others are.
    return with_first if with_first >= len(others) else max(with_first, most_apart(others))


def out_of(may, givers, takers):
    """How many of these pairs are of one of these givers with one that isn't of these takers."""
    return len([pair for pair in may if pair[0] in givers and pair[1] not in takers])


def turned_by(names, steps):
    """The pairs of the drawings in which each gives to the one so many places behind."""
    return {(name, names[(at + step) % len(names)]) for at, name in enumerate(names) for step in steps}


class YearsAsking(Asking):
    def are_names(self, thing, names):
        self.assertIs(type(thing), tuple)
        self.assertEqual(thing, tuple(sorted(set(thing))))
        self.assertTrue(set(thing) <= set(names))

    def told(self, circle):
        """How many drawings years tells of the circle, all that it tells being as the document says."""
        told = years(circle)
        self.assertIs(type(told), tuple)
        drawings, givers, takers = told
        self.assertIs(type(drawings), tuple)
        for drawing in drawings:
            self.assertIs(type(drawing), Drawing)
            self.assertTrue(keeps(circle, drawing))
        rows = [drawing.pairs for drawing in drawings]
        self.assertEqual(rows, sorted(rows))
        pairs = [pair for row in rows for pair in row]
        self.assertEqual(len(pairs), len(set(pairs)))
        self.are_names(givers, circle.names())
        self.are_names(takers, circle.names())
        may = pairs_by(circle, ())
        self.assertLess(out_of(may, givers, takers), (len(drawings) + 1) * (len(givers) - len(takers)))
        self.assertEqual(years(circle=circle), told)
        self.assertIs(shows_years(circle, *told), True)
        return len(drawings)


class TestYears(YearsAsking):
    def test_nobody(self):
        self.refused(NoMember, "", years, Circle(()))
        self.refused(NoMember, "", years, Circle((), (("anna", "bert"),), ((("anna", "bert"),),), 0))

    def test_one(self):
        self.assertEqual(years(free("anna")), ((), ("anna",), ()))
        self.assertEqual(self.told(free("anna")), 0)
        self.assertEqual(self.told(Circle((("anna", "elm"),), gap=0)), 0)

    def test_two(self):
        drawings, givers, takers = years(free("anna", "bert"))
        self.assertEqual(drawings, (Drawing((("anna", "bert"), ("bert", "anna"))),))
        self.assertEqual(self.told(free("anna", "bert")), 1)
        self.assertEqual(self.told(free("anna", "bert", bars=(("bert", "anna"),))), 0)
        self.assertEqual(self.told(Circle((("anna", "elm"), ("bert", "elm")))), 0)

    def test_too_many_members(self):
        for many in range(17, 25):
            self.refused(TooMany, many, years, free(*letters(many)))
        self.refused(TooMany, 17, years, only(letters(17), set()))
        self.assertEqual(self.told(only(letters(16), set())), 0)

    def test_all_pairs_may_be(self):
        for many in range(2, 17):
            self.assertEqual(self.told(free(*letters(many))), many - 1)

    def test_all_circles_of_three(self):
        for may in subsets(all_pairs("abc")):
            circle = only("abc", may)
            self.assertEqual(self.told(circle), most_apart(drawings_of(circle)))

    def test_circles_of_four(self):
        seen = set()
        for may in subsets(all_pairs("abcd"))[::3]:
            circle = only("abcd", may)
            many = self.told(circle)
            seen.add(many)
            self.assertEqual(many, most_apart(drawings_of(circle)), may)
        self.assertEqual(seen, {0, 1, 2, 3})

    def test_circles_of_five_with_houses_bars_and_years(self):
        seen = set()
        for seed in range(300):
            circle = chance_circle("abcde", seed)
            many = self.told(circle)
            seen.add(many)
            self.assertEqual(many, most_apart(drawings_of(circle)), str(circle))
        self.assertTrue({0, 1, 2, 3} <= seen)

    def test_drawings_that_hinder_one_another(self):
        # Whoever takes a drawing at a time, as it comes, may take one behind which there is none.
        for seed in range(40):
            chance = random.Random(seed)
            may = set(chance.sample(all_pairs("abcdef"), 14)) | {("a", "b"), ("b", "a")}
            circle = only("abcdef", may)
            self.assertEqual(self.told(circle), most_apart(drawings_of(circle)), may)

    def test_sixteen_members(self):
        names = letters(16)
        chance = random.Random(16)
        for many in range(16):
            steps = chance.sample(range(1, 16), many)
            may = turned_by(names, steps)
            self.assertEqual(self.told(only(names, may)), many)
            if many:
                self.assertEqual(self.told(only(names, may - {chance.choice(sorted(may))})), many - 1)
        for _ in range(30):
            may = set(chance.sample(all_pairs(names), chance.randrange(241)))
            low = min([len([1 for pair in may if pair[side] == name]) for name in names for side in (0, 1)])
            self.assertLessEqual(self.told(only(names, may)), low)

    def test_fewer_than_each_has_takers(self):
        # Six givers have four takers in common, and each one more: five for each, but out of the four go six pairs only.
        names = letters(12)
        near = turned_by(names, range(1, 12))
        few = {pair for pair in near if pair[0] not in names[:6] or pair[1] in names[6:10]}
        self.assertEqual(self.told(only(names, near)), 11)
        self.assertEqual(self.told(only(names, few)), 0)
        self.assertEqual(self.told(only(names, few | {(name, names[10 + at % 2]) for at, name in enumerate(names[:6])})), 3)

    def test_houses_bars_and_years(self):
        names = letters(16)
        self.assertEqual(self.told(Circle(tuple((name, "elm" if at < 8 else "oak") for at, name in enumerate(names)))), 8)
        self.assertEqual(self.told(Circle(tuple((name, "elm" if at < 9 else "oak") for at, name in enumerate(names)))), 0)
        past = tuple(tuple(sorted(turned_by(names, [step]))) for step in range(1, 11))
        for gap, many in {0: 15, 1: 14, 3: 12, 10: 5, 11: 5}.items():
            self.assertEqual(self.told(free(*names, past=past, gap=gap)), many)
        self.assertEqual(self.told(free(*names, bars=tuple(sorted(turned_by(names, [1, 2]))), past=past, gap=10)), 5)
        self.assertEqual(self.told(free(*names, bars=tuple(sorted(turned_by(names, [1, 15]))), past=past, gap=10)), 4)

    def test_the_circle_stays(self):
        circle = chance_circle("abcde", 3)
        before = copy.deepcopy(circle)
        years(circle)
        self.assertEqual(circle, before)


class TestTheWhole(YearsAsking):
    """The drawings of years, put behind one another as years that all count, take one each, until there is none."""

    def behind_one_another(self, circle):
        drawings, _, _ = years(circle)
        # Years that don't count any more stand ahead of those that do.
        gap = len(drawings) + circle.gap
        kept = circle.past[max(0, len(circle.past) - circle.gap):]
        for many in range(len(drawings) + 1):
            had = tuple(drawing.pairs for drawing in drawings[:many])
            later = Circle(circle.members, circle.bars, kept + had, gap)
            self.assertEqual(self.told(later), len(drawings) - many)
            if many < len(drawings):
                self.assertTrue(keeps(later, drawings[many]))
                some_drawing(later)
        with self.assertRaises(TooFew):
            some_drawing(later)

    def test_small_circles(self):
        for seed in range(60):
            self.behind_one_another(chance_circle("abcdef"[:2 + seed % 5], seed))

    def test_sixteen_members(self):
        names = letters(16)
        for steps in ([1], [2, 3, 7], range(1, 9), range(1, 16)):
            self.behind_one_another(only(names, turned_by(names, steps)))

    def test_free_circles(self):
        for many in (2, 3, 4, 7, 10):
            self.behind_one_another(free(*letters(many)))


if __name__ == "__main__":
    unittest.main()
