"""ring and rings: one ring of all, or the rows by which there is none, and how many rings there are."""

import copy
import random
import unittest
from itertools import permutations

from lotgivers.circles import Circle
from lotgivers.errors import NoMember, TooMany
from lotgivers.rings import ring, rings
from things import Asking, all_pairs, chance_circle, drawings_of, free, letters, only, pairs_by, subsets


def closes_up(may, names):
    """Whether each of these may take the next one, the last one the first."""
    return all(pair in may for pair in zip(names, names[1:] + names[:1]))


def rings_of(circle):
    """All rings, from the least one on, by going through all orders."""
    may = set(pairs_by(circle, ()))
    first, *others = circle.names()
    return [(first, *order) for order in permutations(others) if closes_up(may, (first, *order))]


def rows_by_going(circle):
    """The rows that all ways from the least one on come by, going through the ways one by one."""
    may = set(pairs_by(circle, ()))
    names = circle.names()
    rows = set()
    for order in permutations(names[1:]):
        way = (names[0],)
        rows.add((way, names[0]))
        for name in order:
            if (way[-1], name) not in may:
                break
            way += (name,)
            rows.add((tuple(sorted(way)), name))
    return rows


def are_no_ring_rows(circle, rows):
    """Whether these are such rows, by the words of the document; of any tuple of (names, last)."""
    may = set(pairs_by(circle, ()))
    names = circle.names()
    if names == () or list(rows) != sorted(set(rows)) or ((names[0],), names[0]) not in rows:
        return False
    for come, last in rows:
        if list(come) != sorted(set(come)) or not set(come) <= set(names) or names[0] not in come or last not in come:
            return False
        for name in names:
            if (last, name) in may and name not in come and (tuple(sorted((*come, name))), name) not in rows:
                return False
        if come == names and (last, names[0]) in may:
            return False
    return True


class TestRing(Asking):
    def told(self, circle):
        """How many rings are told of the circle, all that is told being as the document says."""
        told = ring(circle)
        self.assertIs(type(told), tuple)
        word, thing = told
        self.assertIs(type(thing), tuple)
        many = rings(circle)
        self.assertIs(type(many), int)
        if word == "ring":
            self.assertGreater(many, 0)
            self.assertEqual(sorted(thing), list(circle.names()))
            self.assertEqual(thing[0], circle.names()[0])
            self.assertTrue(closes_up(set(pairs_by(circle, ())), thing))
        else:
            self.assertEqual((word, many), ("none", 0))
            self.assertTrue(are_no_ring_rows(circle, thing))
        self.assertEqual((ring(circle=circle), rings(circle=circle)), (told, many))
        return many

    def test_nobody(self):
        for circle in (Circle(()), Circle((), (("anna", "bert"),), ((("anna", "bert"),),), 0)):
            self.refused(NoMember, "", ring, circle)
            self.refused(NoMember, "", rings, circle)

    def test_one(self):
        # The one name would have to take itself.
        for circle in (free("anna"), Circle((("anna", "elm"),), gap=0)):
            self.assertEqual(ring(circle), ("none", ((("anna",), "anna"),)))
            self.assertEqual(self.told(circle), 0)

    def test_two(self):
        self.assertEqual(ring(free("anna", "bert")), ("ring", ("anna", "bert")))
        self.assertEqual(self.told(free("anna", "bert")), 1)
        circle = free("anna", "bert", bars=(("bert", "anna"),))
        self.assertEqual(ring(circle), ("none", ((("anna",), "anna"), (("anna", "bert"), "bert"))))
        self.assertEqual(self.told(circle), 0)
        circle = free("anna", "bert", bars=(("anna", "bert"),))
        self.assertEqual(ring(circle), ("none", ((("anna",), "anna"),)))
        self.assertEqual(self.told(Circle((("anna", "elm"), ("bert", "elm")))), 0)

    def test_eight_and_more(self):
        self.assertEqual(self.told(free(*letters(8))), 5040)
        for many in range(9, 25):
            self.refused(TooMany, many, ring, free(*letters(many)))
            self.refused(TooMany, many, rings, free(*letters(many)))
        self.refused(TooMany, 9, ring, only(letters(9), set()))
        self.refused(TooMany, 9, rings, only(letters(9), set()))

    def test_free_circles(self):
        for many, told in enumerate([0, 0, 1, 2, 6, 24, 120, 720, 5040]):
            if many:
                self.assertEqual(self.told(free(*letters(many))), told)

    def test_all_circles_of_three(self):
        for may in subsets(all_pairs("abc")):
            circle = only("abc", may)
            self.assertEqual(self.told(circle), len(rings_of(circle)))

    def test_circles_of_four(self):
        seen = set()
        for may in subsets(all_pairs("abcd"))[::3]:
            circle = only("abcd", may)
            many = self.told(circle)
            seen.add(many)
            self.assertEqual(many, len(rings_of(circle)))
        self.assertEqual(seen, {0, 1, 2, 3, 4, 6})

    def test_more_members(self):
        for seed in range(120):
            circle = chance_circle("abcdefgh"[:5 + seed % 3], seed)
            self.assertEqual(self.told(circle), len(rings_of(circle)))

    def test_eight_members(self):
        names = letters(8)
        chance = random.Random(8)
        pairs = all_pairs(names)
        for many in (8, 14, 20, 26, 32, 44):
            circle = only(names, set(chance.sample(pairs, many)))
            self.assertEqual(self.told(circle), len(rings_of(circle)))
            order = chance.sample(names, 8)
            hidden = set(zip(order, order[1:] + order[:1]))
            self.assertGreaterEqual(self.told(only(names, hidden | set(chance.sample(pairs, many - 8)))), 1)
        self.assertEqual(self.told(only(names, hidden)), 1)
        self.assertEqual(self.told(only(names, hidden - {(order[3], order[4])})), 0)

    def test_a_drawing_that_keeps_but_no_ring(self):
        two = only("abcdef", {("a", "b"), ("b", "c"), ("c", "a"), ("d", "e"), ("e", "f"), ("f", "d"), ("a", "d")})
        self.assertEqual(len(drawings_of(two)), 1)
        self.assertEqual(self.told(two), 0)
        # Into the second half goes one way, and none back.
        near = {pair for pair in all_pairs("abcdefgh") if pair[0] in "efgh" or pair[1] in "abcd"}
        self.assertEqual(self.told(only("abcdefgh", near | {("e", "a")})), 0)
        # Whoever comes by the one in the middle can't come back to the others.
        middle = {pair for pair in all_pairs("abcde") if "c" in pair or set(pair) <= set("ab") or set(pair) <= set("de")}
        self.assertTrue(drawings_of(only("abcde", middle)))
        self.assertEqual(self.told(only("abcde", middle)), 0)

    def test_houses_bars_and_years(self):
        members = tuple((name, "elm" if at % 2 else "oak") for at, name in enumerate(letters(8)))
        self.assertEqual(self.told(Circle(members)), 144)
        self.assertEqual(self.told(Circle(members[:7])), 0)
        names = letters(5)
        past = tuple(tuple((name, names[(at + step) % 5]) for at, name in enumerate(names)) for step in (4, 3, 2, 1))
        for gap in range(6):
            circle = free(*names, past=past, gap=gap)
            self.assertEqual(self.told(circle), len(rings_of(circle)))

    def test_no_row_that_is_come_by_is_left_out(self):
        for seed in range(40):
            circle = chance_circle("abcdef"[:2 + seed % 5], seed)
            word, rows = ring(circle)
            if word == "none":
                come_by = rows_by_going(circle)
                self.assertLessEqual(come_by, set(rows))
                for row in come_by:
                    self.assertFalse(are_no_ring_rows(circle, tuple(other for other in rows if other != row)))

    def test_the_most_rows(self):
        names = letters(8)
        circle = only(names, {pair for pair in all_pairs(names) if pair[1] != names[0]})
        self.assertEqual(self.told(circle), 0)
        self.assertEqual(len(ring(circle)[1]), 1 + 7 * 64)

    def test_the_circle_stays(self):
        circle = chance_circle("abcdef", 4)
        before = copy.deepcopy(circle)
        self.told(circle)
        self.assertEqual(circle, before)


if __name__ == "__main__":
    unittest.main()
