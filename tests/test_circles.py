"""Circle: its values, ==, len, repr, str, and who may take whom."""

import copy
import unittest

from lotgivers.circles import Circle
from lotgivers.drawings import Drawing
from lotgivers.errors import NoMember
from things import Odd, Touchy, all_pairs, free, letters, no_names, oddities, same_kind, subsets

MEMBERS = (("anna", "elm"), ("bert", ""), ("cleo", "elm"), ("dora", "oak"), ("emil", ""))
BARS = (("anna", "bert"), ("bert", "zoe"), ("cleo", "anna"), ("xaver", "yuri"))
PAST = (
    (("anna", "dora"), ("bert", "emil")),
    (),
    (("dora", "anna"), ("zoe", "anna")),
    (("anna", "bert"), ("bert", "cleo"), ("cleo", "anna")),
)


def family(gap=1):
    return Circle(MEMBERS, BARS, PAST, gap)


def other_circles():
    """Circles that are the family but for one value."""
    return [
        Circle(MEMBERS[1:], BARS, PAST, 1), Circle((), BARS, PAST, 1),
        Circle((("anna", "oak"),) + MEMBERS[1:], BARS, PAST, 1),
        Circle((("anne", "elm"),) + MEMBERS[1:], BARS, PAST, 1),
        Circle(MEMBERS, BARS[1:], PAST, 1), Circle(MEMBERS, None, PAST, 1), Circle(MEMBERS, (), PAST, 1),
        Circle(MEMBERS, BARS, PAST[1:], 1), Circle(MEMBERS, BARS, None, 1), Circle(MEMBERS, BARS, PAST + ((),), 1),
        Circle(MEMBERS, BARS, tuple(reversed(PAST)), 1),
        Circle(MEMBERS, BARS, PAST, 0), Circle(MEMBERS, BARS, PAST, 2), Circle(MEMBERS, BARS, PAST, 10 ** 29),
    ]


class TestValues(unittest.TestCase):
    def test_the_four(self):
        circle = family(3)
        self.assertEqual((circle.members, circle.bars, circle.past, circle.gap), (MEMBERS, BARS, PAST, 3))
        self.assertEqual(set(vars(circle)), {"members", "bars", "past", "gap"})

    def test_what_is_not_told(self):
        for circle in (Circle(MEMBERS), Circle(MEMBERS, None, None), Circle(MEMBERS, (), ()), Circle(members=MEMBERS)):
            self.assertEqual((circle.members, circle.bars, circle.past, circle.gap), (MEMBERS, (), (), 1))
            self.assertIs(type(circle.gap), int)

    def test_by_told_names_in_any_order(self):
        self.assertEqual(Circle(gap=2, past=PAST, members=MEMBERS, bars=BARS), Circle(MEMBERS, BARS, PAST, 2))
        self.assertEqual(Circle(MEMBERS, past=PAST), Circle(MEMBERS, (), PAST, 1))
        self.assertEqual(Circle(MEMBERS, gap=4), Circle(MEMBERS, (), (), 4))

    def test_two_keep_each_their_own(self):
        one, other = Circle(MEMBERS, BARS, PAST, 1), Circle((), (), (), 7)
        self.assertEqual((one.members, one.bars, one.past, one.gap), (MEMBERS, BARS, PAST, 1))
        self.assertEqual((other.members, other.bars, other.past, other.gap), ((), (), (), 7))

    def test_nothing_is_refused(self):
        for thing in no_names():
            Circle(thing)
            Circle(MEMBERS, thing, thing, thing)

    def test_equal_where_the_four_are(self):
        self.assertTrue(family() == family())
        self.assertFalse(family() != family())
        self.assertTrue(Circle(()) == Circle((), None, None, 1))
        for other in other_circles():
            self.assertFalse(family() == other, str(other))
            self.assertFalse(other == family(), str(other))
            self.assertTrue(family() != other)

    def test_equal_to_nothing_else(self):
        nobody = Circle(())
        for thing in [*no_names(), (MEMBERS, BARS, PAST, 1), str(family()), Drawing(())]:
            if not isinstance(thing, Circle):
                self.assertIs(nobody == thing, False)
                self.assertIs(nobody != thing, True)
                self.assertIs(family() == thing, False)
                if not isinstance(thing, (Odd, Touchy)):
                    self.assertIs(thing == nobody, False)

    def test_len(self):
        for many in range(25):
            self.assertEqual(len(free(*letters(many))), many)
        self.assertEqual(len(family()), 5)

    def test_repr(self):
        self.assertEqual(repr(Circle(())), "Circle(0)")
        self.assertEqual(repr(Circle((("anna", ""),), BARS, PAST)), "Circle(1)")
        self.assertEqual(repr(family()), "Circle(5)")
        self.assertEqual(repr(free(*letters(24))), "Circle(24)")

    def test_str(self):
        self.assertEqual(str(Circle(())), "circle 1")
        self.assertEqual(str(Circle((), gap=0)), "circle 0")
        self.assertEqual(str(Circle((), gap=10 ** 30 - 1)), "circle " + "9" * 30)
        self.assertEqual(str(Circle((), past=((), ()))), "circle 1\nyear\nyear")
        self.assertEqual(str(free("anna", bars=(("zoe", "anna"),))), "circle 1\nmember anna\nbar zoe anna")
        self.assertEqual(
            str(family(12)),
            "circle 12\n"
            "member anna elm\nmember bert\nmember cleo elm\nmember dora oak\nmember emil\n"
            "bar anna bert\nbar bert zoe\nbar cleo anna\nbar xaver yuri\n"
            "year\n  anna > dora\n  bert > emil\n"
            "year\n"
            "year\n  dora > anna\n  zoe > anna\n"
            "year\n  anna > bert\n  bert > cleo\n  cleo > anna",
        )

    def test_stay_as_they_were_and_tell_the_same_twice(self):
        circle = family(2)
        for _ in range(2):
            self.assertEqual(ask_all(circle), ask_all(family(2)))
        self.assertEqual((circle.members, circle.bars, circle.past, circle.gap), (MEMBERS, BARS, PAST, 2))


def ask_all(circle):
    """All that is told of a circle."""
    names = circle.names()
    reasons = [circle.reason(giver, taker) for giver in names for taker in names]
    tables = [(circle.house_of(name), circle.takers(name), circle.givers(name)) for name in names]
    return (names, reasons, tables, str(circle), repr(circle), len(circle))


class TestMembers(unittest.TestCase):
    def test_names(self):
        self.assertEqual(Circle(()).names(), ())
        self.assertEqual(free("anna").names(), ("anna",))
        self.assertEqual(family().names(), ("anna", "bert", "cleo", "dora", "emil"))
        self.assertIs(type(family().names()), tuple)
        self.assertEqual(free(*letters(24)).names(), tuple(letters(24)))

    def test_house_of(self):
        houses = [family().house_of(name) for name in family().names()]
        self.assertEqual(houses, ["elm", "", "elm", "oak", ""])
        self.assertEqual(family().house_of(name="dora"), "oak")

    def test_has(self):
        self.assertTrue(family().has("anna"))
        for thing in [*no_names(), "zoe", "elm"]:
            self.assertFalse(family().has(thing))


class TestReasons(unittest.TestCase):
    def test_each_reason(self):
        circle = family()
        for (giver, taker), reason in {
            ("bert", "bert"): "self", ("anna", "cleo"): "house", ("cleo", "anna"): "house",
            ("anna", "bert"): "bar", ("bert", "anna"): None, ("bert", "cleo"): "past", ("cleo", "bert"): None,
            ("bert", "emil"): None, ("emil", "bert"): None, ("anna", "dora"): None, ("dora", "anna"): None,
        }.items():
            self.assertEqual(circle.reason(giver, taker), reason, (giver, taker))
            self.assertEqual(circle.reason(taker=taker, giver=giver), reason)

    def test_their_order_where_several_fit(self):
        pairs = (("anna", "anna"), ("anna", "bert"), ("bert", "anna"))
        for house, bars, past in [("elm", pairs, (pairs,)), ("elm", pairs, ()), ("elm", (), (pairs,)), ("elm", (), ())]:
            circle = Circle((("anna", house), ("bert", house)), bars, past)
            self.assertEqual(circle.reason("anna", "anna"), "self")
            self.assertEqual(circle.reason("anna", "bert"), "house")
        for house in ("", "oak"):
            members = (("anna", house), ("bert", ""))
            self.assertEqual(Circle(members, pairs, (pairs,)).reason("anna", "anna"), "self")
            self.assertEqual(Circle(members, (), (pairs,)).reason("anna", "anna"), "self")
            self.assertEqual(Circle(members, pairs, (pairs,)).reason("anna", "bert"), "bar")
            self.assertEqual(Circle(members, pairs).reason("anna", "bert"), "bar")
            self.assertEqual(Circle(members, (), (pairs,)).reason("anna", "bert"), "past")
            self.assertIsNone(Circle(members).reason("anna", "bert"))

    def test_no_house_is_no_common_house(self):
        self.assertIsNone(free("anna", "bert").reason("anna", "bert"))
        self.assertIsNone(Circle((("anna", "elm"), ("bert", "oak"))).reason("anna", "bert"))
        self.assertIsNone(Circle((("anna", "elm"), ("bert", ""))).reason("anna", "bert"))
        self.assertIsNone(Circle((("anna", ""), ("bert", "elm"))).reason("anna", "bert"))

    def test_a_house_may_have_a_member_s_name(self):
        circle = Circle((("anna", "bert"), ("bert", "anna")))
        self.assertIsNone(circle.reason("anna", "bert"))

    def test_a_bar_goes_one_way(self):
        circle = free("anna", "bert", bars=(("anna", "bert"),), past=((("bert", "anna"),),))
        self.assertEqual(circle.reason("anna", "bert"), "bar")
        self.assertEqual(circle.reason("bert", "anna"), "past")

    def test_the_last_gap_years_alone(self):
        names = ("anna", "bert", "cleo", "dora")
        past = ((("anna", "bert"),), (("anna", "cleo"),), (("anna", "dora"),))
        for gap, takers in {
            0: ("bert", "cleo", "dora"), 1: ("bert", "cleo"), 2: ("bert",), 3: (), 4: (), 10 ** 30 - 1: (),
        }.items():
            circle = free(*names, past=past, gap=gap)
            self.assertEqual(circle.takers("anna"), takers, gap)
            for name in names[1:]:
                self.assertEqual(circle.reason("anna", name), None if name in takers else "past")
                self.assertEqual(circle.givers(name), tuple(
                    giver for giver in names if giver != name and (giver != "anna" or name in takers)
                ))

    def test_a_gap_without_years(self):
        for gap in (0, 1, 10 ** 29):
            self.assertEqual(free("anna", "bert", gap=gap).takers("anna"), ("bert",))

    def test_takers_and_givers(self):
        circle = family()
        self.assertEqual(circle.takers("anna"), ("dora", "emil"))
        self.assertEqual(circle.takers("bert"), ("anna", "dora", "emil"))
        self.assertEqual(circle.takers("cleo"), ("bert", "dora", "emil"))
        self.assertEqual(circle.takers("dora"), ("anna", "bert", "cleo", "emil"))
        self.assertEqual(circle.givers("anna"), ("bert", "dora", "emil"))
        self.assertEqual(circle.givers("bert"), ("cleo", "dora", "emil"))
        self.assertEqual(circle.givers("cleo"), ("dora", "emil"))
        self.assertEqual(circle.takers(giver="emil"), ("anna", "bert", "cleo", "dora"))
        self.assertEqual(circle.givers(taker="emil"), ("anna", "bert", "cleo", "dora"))
        self.assertEqual(free("anna").takers("anna"), ())
        self.assertEqual(free("anna").givers("anna"), ())
        for tuples in (circle.takers("anna"), circle.givers("anna"), free("anna").takers("anna")):
            self.assertIs(type(tuples), tuple)

    def test_takers_and_givers_as_the_reasons_are(self):
        names = ("anna", "bert", "cleo")
        for bars in subsets(all_pairs(names)):
            for past in ((), ((("bert", "cleo"),),)):
                circle = free(*names, bars=bars, past=past)
                for one in names:
                    may = [other for other in names if circle.reason(one, other) is None]
                    self.assertEqual(circle.takers(one), tuple(may))
                    may = [other for other in names if circle.reason(other, one) is None]
                    self.assertEqual(circle.givers(one), tuple(may))

    def test_twenty_four_members(self):
        names = letters(24)
        circle = Circle(tuple((name, "abcdef"[at % 6]) for at, name in enumerate(names)))
        for at, name in enumerate(names):
            others = tuple(other for by, other in enumerate(names) if by % 6 != at % 6)
            self.assertEqual(circle.takers(name), others)
            self.assertEqual(circle.givers(name), others)


class TestNoMember(unittest.TestCase):
    def refused(self, thing, ask, *things):
        with self.assertRaises(NoMember) as caught:
            ask(*things)
        self.assertTrue(same_kind(caught.exception.name, thing), thing)

    def test_of_anything(self):
        for circle in (family(), Circle(())):
            for thing in [*no_names(), "zoe", "xaver", "elm", "annaa", "ann"]:
                self.refused(thing, circle.house_of, thing)
                self.refused(thing, circle.takers, thing)
                self.refused(thing, circle.givers, thing)
                self.refused(thing, circle.reason, thing, "zoe")
                self.refused(thing, circle.reason, thing, thing)
        for thing in [*no_names(), "zoe"]:
            self.refused(thing, family().reason, "anna", thing)
            self.refused(thing, family().reason, thing, "anna")
            for other in (None, [], "zoe", 3):
                self.refused(thing, family().reason, thing, other)

    def test_giver_ahead_of_taker(self):
        self.refused("zoe", family().reason, "zoe", "yuri")
        self.refused("yuri", family().reason, "yuri", "zoe")
        with self.assertRaises(NoMember) as caught:
            family().reason(taker="zoe", giver="yuri")
        self.assertEqual(caught.exception.name, "yuri")

    def test_what_was_handed_in_stays(self):
        thing = [["anna"], {"a": 1}]
        before = copy.deepcopy(thing)
        for ask in (family().house_of, family().takers, family().givers):
            self.refused(before, ask, thing)
        self.assertEqual(thing, before)

    def test_what_is_told_stays(self):
        thing = ["anna"]
        with self.assertRaises(NoMember) as caught:
            family().house_of(thing)
        thing.append("bert")
        self.assertEqual(caught.exception.name, ["anna"])

    def test_tell_the_same_behind_a_refusal(self):
        circle = family()
        self.refused(None, circle.reason, None, None)
        self.assertEqual(ask_all(circle), ask_all(family()))

    def test_nobody(self):
        self.assertEqual(Circle(()).names(), ())
        for thing in oddities():
            self.refused(thing, Circle((), BARS, PAST).takers, thing)


if __name__ == "__main__":
    unittest.main()
