"""without and with_one: the circle with one member fewer, or one more, all else as it is."""

import unittest

from lotgivers.changing import with_one, without
from lotgivers.circles import Circle, is_circle
from lotgivers.errors import NoMember, Twice
from things import Asking, free, letters, no_names

MEMBERS = (("anna", "elm"), ("bert", ""), ("cleo", "elm"), ("dora", "oak"))
BARS = (("anna", "bert"), ("bert", "zoe"), ("zoe", "anna"))
PAST = ((("anna", "dora"), ("bert", "zoe")), (), (("dora", "anna"), ("zoe", "anna")))


def family(gap=2):
    return Circle(MEMBERS, BARS, PAST, gap)


class TestWithout(Asking):
    def test_all_else_as_it_is(self):
        for gap in (0, 2, 10 ** 29):
            for at, (name, _) in enumerate(MEMBERS):
                told = Circle(MEMBERS[:at] + MEMBERS[at + 1:], BARS, PAST, gap)
                for made in (without(family(gap), name), without(circle=family(gap), name=name)):
                    self.assertIs(type(made), Circle)
                    self.assertEqual(made, told)
                    self.assertTrue(is_circle(made.members, made.bars, made.past, made.gap))
                self.in_any_order(told, without, circle=family(gap), name=name)

    def test_the_last_one(self):
        self.assertEqual(without(free("anna"), "anna"), Circle(()))
        self.assertEqual(len(without(free(*letters(24)), "bc")), 23)

    def test_no_member_of_anything(self):
        for thing in [*no_names(), "zoe", "annaa", "elm"]:
            self.refused(NoMember, thing, without, family(), thing)
            self.refused(NoMember, thing, without, Circle((), BARS, PAST), thing)

    def test_the_circle_stays(self):
        circle = family()
        without(circle, "anna")
        self.assertEqual(circle, family())


class TestWithOne(Asking):
    def test_all_else_as_it_is(self):
        for member in [("aaron", ""), ("berta", "elm"), ("zoe", "ash"), ("ann", "oak"), ("elm", "elm"), ("cleoo", "")]:
            told = Circle(tuple(sorted(MEMBERS + (member,))), BARS, PAST, 2)
            self.assertEqual(with_one(family(), member), told)
            self.assertIs(type(with_one(family(), member)), Circle)
            self.in_any_order(told, with_one, circle=family(), member=member)
            self.assertTrue(is_circle(told.members, told.bars, told.past, told.gap))
            self.assertEqual(without(with_one(family(), member), member[0]), family())

    def test_the_bars_of_who_comes_hold(self):
        circle = with_one(family(), ("zoe", ""))
        self.assertEqual(circle.reason("bert", "zoe"), "bar")
        self.assertEqual(circle.reason("zoe", "anna"), "bar")
        self.assertIsNone(circle.reason("zoe", "bert"))

    def test_the_first_one(self):
        self.assertEqual(with_one(Circle(()), ("anna", "elm")), Circle((("anna", "elm"),)))
        self.assertEqual(len(with_one(free(*letters(23)), ("zoe", ""))), 24)

    def test_twice(self):
        for name, house in MEMBERS:
            for other in (house, "", "elm", "ash"):
                self.refused(Twice, name, with_one, family(), (name, other))

    def test_the_circle_stays(self):
        circle = family()
        with_one(circle, ("zoe", ""))
        self.refused(Twice, "anna", with_one, circle, ("anna", ""))
        self.assertEqual(circle, family())


if __name__ == "__main__":
    unittest.main()
