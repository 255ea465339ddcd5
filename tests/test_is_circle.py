"""is_circle: whether a circle is so made, of anything."""

import copy
import unittest

from lotgivers.circles import Circle, is_circle
from things import letters, no_names, oddities, same_kind
from test_circles import BARS, MEMBERS, PAST, family, other_circles

HUGE = 10 ** 30 - 1

WRONG_MEMBERS = [
    MEMBERS[::-1], MEMBERS[1:] + MEMBERS[:1], (MEMBERS[1], MEMBERS[0]), (MEMBERS[0], MEMBERS[0]),
    (("anna", ""), ("anna", "elm")), (("anna", "elm"), ("anna", "oak")), (("anna", "oak"), ("anna", "elm")),
    list(MEMBERS), (list(MEMBERS[0]),), (MEMBERS[0], list(MEMBERS[1])), dict(MEMBERS), set(MEMBERS),
    (("anna",),), (("anna", "elm", "oak"),), (("anna", "", ""),), ((),), ("anna",), ("anna", "elm"), ("an",),
    (("anna", None),), (("anna", False),), (("anna", 0),), (("anna", ()),), (("anna", b""),), (("anna", []),),
    (("", "elm"),), (("", ""),), (("Anna", ""),), (("anna", "Elm"),), (("anna", " "),), (("anna", "elm "),),
    (("abcdefghijklm", ""),), (("anna", "abcdefghijklm"),), ((b"anna", ""),), ((None, ""),), ((("anna", ""),),),
    ((1, ""), (2, "")), (["anna", ""],), ("", ""),
]
WRONG_PAIRS = [
    BARS[::-1], (BARS[0], BARS[0]), (("anna", "cleo"), ("anna", "bert")), (("bert", "anna"), ("anna", "bert")),
    list(BARS), (list(BARS[0]),), (BARS[0], list(BARS[1])), dict(BARS), set(BARS),
    (("anna",),), (("anna", "bert", "cleo"),), ((),), ("anna",), ("anna", "bert"), ("ab",), ("ab", "cd"),
    (("anna", ""),), (("", "anna"),), (("anna", "Bert"),), (("Anna", "bert"),), (("anna", None),), (("anna", 1),),
    ((b"anna", "bert"),), ((["anna"], "bert"),), ((("anna", "bert"), "cleo"),), (("anna", "abcdefghijklm"),),
    ((("anna", "bert"),),), (1, 2), (None,),
]
GOOD_PAIRS = [
    (), BARS, (("anna", "anna"),), (("zoe", "zoe"),), (("a", "abcdefghijkl"), ("abcdefghijkl", "a")),
    (("anna", "bert"), ("anna", "cleo")), (("anna", "cleo"), ("bert", "cleo")),
]


class TestIsCircle(unittest.TestCase):
    def check(self, told, *things):
        self.assertIs(is_circle(*things), told, things)

    def test_of_circles(self):
        for circle in [Circle(()), family(), family(0), family(HUGE), *other_circles()]:
            self.check(True, circle.members, circle.bars, circle.past, circle.gap)

    def test_by_told_names_in_any_order(self):
        self.assertIs(is_circle(gap=1, past=PAST, bars=BARS, members=MEMBERS), True)
        self.assertIs(is_circle(gap=1, past=BARS, bars=PAST, members=MEMBERS), False)

    def test_members(self):
        for members in [
            (), (("anna", ""),), (("a", "a"),), (("abcdefghijkl", "abcdefghijkl"),), MEMBERS,
            (("anna", "elm"), ("bert", "elm")), (("anna", "oak"), ("bert", "elm")), (("ann", "z"), ("anna", "")),
            tuple((name, "") for name in letters(24)), tuple((name, "elm") for name in letters(50)),
        ]:
            self.check(True, members, (), (), 1)
        for members in WRONG_MEMBERS:
            self.check(False, members, (), (), 1)
            self.check(False, members, BARS, PAST, 1)

    def test_one_of_many_members(self):
        members = [(name, "") for name in letters(24)]
        for at in range(24):
            for wrong in (("Anna", ""), ("zz", ""), (members[at][0], None), [members[at][0], ""], members[at - 1], 7):
                if at < 23 or wrong != ("zz", ""):
                    self.check(False, (*members[:at], wrong, *members[at + 1:]), (), (), 1)

    def test_bars(self):
        for bars in [None, *GOOD_PAIRS]:
            self.check(True, MEMBERS, bars, PAST, 1)
            self.check(True, (), bars, (), 1)
        for bars in WRONG_PAIRS:
            self.check(False, MEMBERS, bars, PAST, 1)
            self.check(False, (), bars, (), 1)

    def test_past(self):
        for year in GOOD_PAIRS:
            self.check(True, MEMBERS, BARS, (year,), 1)
            self.check(True, MEMBERS, BARS, (year, year), 1)
            self.check(True, MEMBERS, BARS, (BARS, year, ()), 1)
        self.check(True, MEMBERS, BARS, None, 1)
        self.check(True, MEMBERS, BARS, (), 1)
        self.check(True, MEMBERS, BARS, ((),) * 12, 1)
        for year in WRONG_PAIRS:
            self.check(False, MEMBERS, BARS, (year,), 1)
            self.check(False, MEMBERS, BARS, (BARS, year), 1)
            self.check(False, MEMBERS, BARS, (year, BARS), 1)
        for past in [list(PAST), BARS, [BARS], (None,), (None, BARS), {(): ()}, {()}, 0, "", False]:
            self.check(False, MEMBERS, BARS, past, 1)

    def test_gap(self):
        for gap in [0, 1, 2, 9, 10 ** 6, 10 ** 29, HUGE]:
            self.check(True, MEMBERS, BARS, PAST, gap)
            self.check(True, (), None, None, gap)
        for gap in [True, False, -1, -10 ** 40, HUGE + 1, 10 ** 31, 10 ** 59, None, "1", b"1", (1,), [1], [], {}]:
            self.check(False, MEMBERS, BARS, PAST, gap)
            self.check(False, (), None, None, gap)

    def test_things_of_all_kinds_at_each_place(self):
        for thing in oddities():
            self.check(False, thing, BARS, PAST, 1)
            if not same_kind(thing, ("anna", "")):
                self.check(False, (thing,), BARS, PAST, 1)
            if not same_kind(thing, ""):
                self.check(False, (("anna", thing),), BARS, PAST, 1)
            self.check(False, ((thing, ""),), BARS, PAST, 1)
            self.check(False, MEMBERS, (thing,), PAST, 1)
            self.check(False, MEMBERS, (("anna", thing),), PAST, 1)
            self.check(False, MEMBERS, ((thing, "anna"),), PAST, 1)
            self.check(False, MEMBERS, BARS, (thing,), 1)
            self.check(False, MEMBERS, BARS, ((thing,),), 1)
            self.check(False, MEMBERS, BARS, (BARS, (("anna", thing),)), 1)
            self.check(False, MEMBERS, BARS, (((thing, "anna"),),), 1)
            if thing is not None:
                self.check(False, MEMBERS, thing, PAST, 1)
                self.check(False, MEMBERS, BARS, thing, 1)
            if type(thing) is not int or thing < 0 or thing > HUGE:
                self.check(False, MEMBERS, BARS, PAST, thing)

    def test_all_at_once(self):
        for thing in no_names():
            if not same_kind(thing, ()):
                self.check(False, thing, thing, thing, thing)
            self.check(False, (thing, thing), (), (), 1)

    def test_what_is_handed_in_stays(self):
        things = [[["anna", ""]], [["anna", "bert"]], [[["anna", "bert"]]], 1]
        before = copy.deepcopy(things)
        self.assertIs(is_circle(*things), False)
        self.assertIs(is_circle(*things), False)
        self.assertEqual(things, before)


if __name__ == "__main__":
    unittest.main()
