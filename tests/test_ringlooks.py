"""shows_ring and shows_no_ring: looks at a ring of all, and at the rows by which there is none, whoever made them."""

import copy
import random
import unittest
from itertools import permutations, product

from lotgivers.circles import Circle
from lotgivers.errors import TooMany
from lotgivers.ringlooks import shows_no_ring, shows_ring
from lotgivers.rings import ring
from test_rings import are_no_ring_rows, rings_of
from things import Asking, all_pairs, chance_circle, free, letters, no_names, oddities, only, pairs_by, subsets

# From anna and cleo one comes to bert, who may take nobody.
STUCK = only(("anna", "bert", "cleo"), {("anna", "bert"), ("anna", "cleo"), ("cleo", "anna"), ("cleo", "bert")})
STUCK_ROWS = (
    (("anna",), "anna"), (("anna", "bert"), "bert"), (("anna", "bert", "cleo"), "bert"), (("anna", "cleo"), "cleo"),
)


class Looking(Asking):
    def ring_is(self, circle, thing, told):
        for _ in range(2):
            self.assertIs(shows_ring(circle, thing), told, thing)

    def rows_are(self, circle, thing, told):
        for _ in range(2):
            self.assertIs(shows_no_ring(circle, thing), told, thing)


class TestTheWhole(Looking):
    """One ring of all is told, or a paper by which there is none; each shown by its look, not by the other one."""

    def check(self, circle):
        word, thing = ring(circle)
        self.ring_is(circle, thing, word == "ring")
        self.rows_are(circle, thing, word == "none")
        self.ring_is(circle, (word, thing), False)
        self.rows_are(circle, (word, thing), False)
        return word

    def test_circles_of_one_to_eight(self):
        words = [self.check(chance_circle("abcdefgh"[:1 + seed % 8], seed)) for seed in range(160)]
        self.assertGreater(words.count("ring"), 20)
        self.assertGreater(words.count("none"), 20)

    def test_circles_of_four(self):
        for may in subsets(all_pairs("abcd"))[::5]:
            self.check(only("abcd", may))

    def test_free_circles_and_empty_ones(self):
        for many in range(1, 9):
            self.assertEqual(self.check(free(*letters(many))), "none" if many == 1 else "ring")
            self.assertEqual(self.check(only(letters(many), set())), "none")


class TestShowsRing(Looking):
    def test_all_orders(self):
        for seed in range(60):
            circle = chance_circle("abcde"[:1 + seed % 5], seed)
            found = rings_of(circle) if len(circle) > 1 else []
            for many in range(len(circle) + 1):
                for names in permutations(circle.names(), many):
                    self.ring_is(circle, names, names in found)

    def test_nobody_and_one(self):
        for thing in ((), ("anna",), ("",), (("anna",), "anna"), None):
            self.ring_is(Circle(()), thing, False)
            self.ring_is(free("anna"), thing, False)
            self.ring_is(Circle((("anna", "elm"),), gap=0), thing, False)

    def test_names_otherwise(self):
        circle = free("anna", "bert", "cleo", "dora", bars=(("cleo", "dora"),))
        good = ("anna", "bert", "dora", "cleo")
        self.ring_is(circle, good, True)
        self.ring_is(circle, ("anna", "bert", "cleo", "dora"), False)
        for at in range(4):
            self.ring_is(circle, good[:at] + good[at + 1:], False)
            self.ring_is(circle, good[:at] + good[at:at + 1] + good[at:], False)
            self.ring_is(circle, good[:at] + ("zoe",) + good[at:], False)
            self.ring_is(circle, good[:at] + ("zoe",) + good[at + 1:], False)
            self.ring_is(circle, good[:at] + (good[at - 1],) + good[at + 1:], False)
            for thing in [None, "", "Anna", 1, (), ("anna",), ["anna"], b"anna"]:
                self.ring_is(circle, good[:at] + (thing,) + good[at + 1:], False)
            if at:
                # The same ring, but not from the least one on.
                self.ring_is(circle, good[at:] + good[:at], False)
        for thing in [list(good), dict.fromkeys(good), " ".join(good), (good,), tuple(zip(good, good[1:]))]:
            self.ring_is(circle, thing, False)

    def test_the_last_may_take_the_first(self):
        names = letters(5)
        line = set(zip(names, names[1:]))
        self.ring_is(only(names, line), tuple(names), False)
        self.ring_is(only(names, line | {(names[4], names[0])}), tuple(names), True)
        self.ring_is(only(names, line | {(names[0], names[4])}), tuple(names), False)

    def test_nine_to_twenty_four_members(self):
        chance = random.Random(9)
        for many in range(9, 25):
            names = letters(many)
            order = (names[0], *chance.sample(names[1:], many - 1))
            circle = only(names, set(zip(order, order[1:] + order[:1])))
            self.refused(TooMany, many, ring, circle)
            self.ring_is(circle, order, True)
            self.ring_is(circle, order[:3] + (order[4], order[3]) + order[5:], False)
            self.ring_is(circle, order[:-1], False)
            self.ring_is(circle, (order[0], *order[:0:-1]), False)
            self.ring_is(free(*names), (order[0], *order[:0:-1]), True)
            self.ring_is(only(names, set(zip(order, order[1:]))), order, False)

    def test_things_of_all_kinds(self):
        for circle in (Circle(()), free("anna"), free("anna", "bert")):
            for thing in oddities():
                self.ring_is(circle, thing, False)
                self.ring_is(circle, (thing,), False)
                self.ring_is(circle, ("anna", thing), False)
                self.ring_is(circle, (thing, "bert"), False)
                self.ring_is(circle, ("anna", "bert", thing), False)

    def test_by_name_in_any_order(self):
        self.in_any_order(True, shows_ring, circle=free("anna", "bert"), thing=("anna", "bert"))
        self.in_any_order(False, shows_ring, circle=free("anna", "bert"), thing=("bert", "anna"))


class TestShowsNoRing(Looking):
    def looked_at(self, circle, rows):
        """Whether the look tells what the document's words tell, of rows of names."""
        told = are_no_ring_rows(circle, rows)
        self.rows_are(circle, rows, told)
        return told

    def test_what_can_be_told_of_two(self):
        names = ("a", "b")
        rows = [(come, last) for come in subsets(names) for last in names]
        for may in subsets(all_pairs(names)):
            for some in subsets(rows):
                self.looked_at(only(names, may), tuple(sorted(some)))

    def test_many_rows_of_three(self):
        rows = sorted((come, last) for come in subsets("abc") for last in come if "a" in come)
        self.assertEqual(len(rows), 8)
        found = 0
        for may in subsets(all_pairs("abc"))[::3]:
            for some in subsets(rows):
                found += self.looked_at(only("abc", may), some)
        self.assertGreater(found, 50)

    def test_more_rows_than_are_come_by(self):
        for seed in range(60):
            circle = chance_circle("abcde"[:2 + seed % 4], seed)
            names = circle.names()
            may = pairs_by(circle, ())
            word, rows = ring(circle)
            every = {
                (come, last) for come in subsets(names) for last in come
                if names[0] in come and not (come == names and (last, names[0]) in may)
            }
            told = self.looked_at(circle, tuple(sorted(every)))
            if word == "none":
                self.assertTrue(self.looked_at(circle, rows))
                for more in sorted(every - set(rows))[:6]:
                    self.looked_at(circle, tuple(sorted((*rows, more))))
            else:
                self.assertFalse(told)

    def test_nobody_and_one(self):
        for thing in ((), ((("anna",), "anna"),), (((), ""),), ((("",), ""),), None):
            self.rows_are(Circle(()), thing, False)
        for one in (free("anna"), Circle((("anna", "elm"),), gap=0)):
            self.rows_are(one, ((("anna",), "anna"),), True)
            for thing in ((), (("anna",), "anna"), ("anna",), ((("anna",), "anna"),) * 2, ((("bert",), "bert"),)):
                self.rows_are(one, thing, False)

    def test_rows_otherwise(self):
        self.rows_are(STUCK, STUCK_ROWS, True)
        self.assertEqual(ring(STUCK), ("none", STUCK_ROWS))
        for at, row in enumerate(STUCK_ROWS):
            ahead, behind = STUCK_ROWS[:at], STUCK_ROWS[at + 1:]
            self.rows_are(STUCK, ahead + behind, False)
            self.rows_are(STUCK, (*ahead, row, row, *behind), False)
            if behind:
                self.rows_are(STUCK, (*ahead, behind[0], row, *behind[1:]), False)
            come, last = row
            for other in [
                list(row), (list(come), last), (come, [last]), (come,), (come, last, last), come, last, (come, None),
                (come, "zoe"), (come, "Anna"), ((), last), (come[::-1] + come, last), ((*come, "zoe"), last),
                (("aaa", *come), last), (("aaa", *come), "aaa"), (come[1:], last), None, {come: last}, (last, come),
                (dict.fromkeys(come), last), ("".join(come), last), ((come,), last), ((*come, None), last),
            ]:
                self.rows_are(STUCK, (*ahead, other, *behind), False)
        for other in [
            list(STUCK_ROWS), STUCK_ROWS[::-1], dict(STUCK_ROWS), set(STUCK_ROWS), (STUCK_ROWS,), str(STUCK_ROWS), (),
            STUCK_ROWS[:1], STUCK_ROWS[1:],
        ]:
            self.rows_are(STUCK, other, False)

    def test_a_row_that_closes_the_ring(self):
        # By each of these rows one goes on as told; but where there is a ring, one of them closes it.
        for many in range(2, 6):
            names = letters(many)
            circle = free(*names)
            rows = {(come, last) for come in subsets(names) for last in come if names[0] in come}
            self.rows_are(circle, tuple(sorted(rows)), False)
            open_rows = tuple(sorted(row for row in rows if row[0] != tuple(names)))
            self.rows_are(circle, open_rows, False)
            self.rows_are(only(names, {pair for pair in all_pairs(names) if pair[1] != names[0]}), tuple(sorted(rows)), True)

    def test_nine_to_twenty_four_members(self):
        for many in range(9, 25):
            names = letters(many)
            line = tuple((tuple(names[:at + 1]), names[at]) for at in range(many))
            circle = only(names, set(zip(names, names[1:])))
            self.refused(TooMany, many, ring, circle)
            self.rows_are(circle, line, True)
            for at in (0, 1, many // 2, many - 1):
                self.rows_are(circle, line[:at] + line[at + 1:], False)
                self.rows_are(circle, line[:at] + line[at:at + 1] + line[at:], False)
            self.rows_are(only(names, set(zip(names, names[1:])) | {(names[-1], names[0])}), line, False)
            self.rows_are(only(names, set(zip(names, names[1:])) | {(names[3], names[5])}), line, False)
            self.rows_are(only(names, set()), line, True)
            self.rows_are(only(names, set()), line[:1], True)
            self.rows_are(free(*names), line[:1], False)

    def test_the_rows_of_nine_free_ones_but_for_the_least(self):
        names = letters(9)
        circle = only(names, {pair for pair in all_pairs(names) if pair[1] != names[0]})
        rows = sorted({
            (come, last) for come in subsets(names) if names[0] in come for last in come[1:]
        } | {((names[0],), names[0])})
        self.assertEqual(len(rows), 1 + 8 * 128)
        self.rows_are(circle, tuple(rows), True)
        self.rows_are(circle, tuple(rows[:600] + rows[601:]), False)
        self.rows_are(free(*names), tuple(rows), False)

    def test_things_of_all_kinds(self):
        for circle in (Circle(()), free("anna"), STUCK):
            for thing in no_names():
                self.rows_are(circle, thing, False)
                self.rows_are(circle, (thing,), False)
                self.rows_are(circle, ((("anna",), "anna"), thing), False)
                self.rows_are(circle, ((("anna",), thing),), False)
                self.rows_are(circle, ((thing, "anna"),) if not isinstance(thing, tuple) else (), False)
                self.rows_are(circle, ((("anna", thing), "anna"),), False)
                self.rows_are(circle, (*STUCK_ROWS, thing), False)

    def test_by_name_in_any_order(self):
        self.in_any_order(True, shows_no_ring, circle=STUCK, thing=STUCK_ROWS)
        self.in_any_order(False, shows_no_ring, circle=STUCK, thing=STUCK_ROWS[:3])

    def test_what_is_handed_in_stays(self):
        thing = [[["anna"], "anna"], [["anna", "bert"], "bert"]]
        before = copy.deepcopy(thing)
        self.rows_are(STUCK, thing, False)
        self.ring_is(STUCK, thing, False)
        self.assertEqual(thing, before)

    def test_rows_with_names_in_every_way(self):
        names = ("anna", "bert", "zoe")
        for come in product(names, repeat=2):
            for last in names:
                rows = tuple(sorted({(("anna",), "anna"), (come, last)}))
                self.rows_are(only(("anna", "bert"), {("anna", "bert")}), rows, are_no_ring_rows(
                    only(("anna", "bert"), {("anna", "bert")}), rows,
                ))


if __name__ == "__main__":
    unittest.main()
