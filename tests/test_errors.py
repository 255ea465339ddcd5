"""The refusals: what they bear, and what they stand under."""

import unittest

from lotgivers import errors
from lotgivers.errors import (
    LotError, NoBack, NoBar, NoDrawing, NoMember, NoNumber, NoRow, NoText, NoYear, TooFew, TooMany, Twice,
)
from things import no_names, same_kind

ONE_VALUE = [
    (NoMember, "name"), (NoDrawing, "thing"), (TooFew, "lot"), (NoNumber, "number"),
    (TooMany, "many"), (Twice, "name"), (NoText, "row"),
]
OF_TEXT = [NoYear, NoBack, NoRow]
ALL = [kind for kind, _ in ONE_VALUE] + [NoBar] + OF_TEXT


class TestErrors(unittest.TestCase):
    def test_stand_straight_under_lot_error(self):
        self.assertEqual(LotError.__bases__, (ValueError,))
        for kind in ALL:
            self.assertEqual(kind.__bases__, (LotError,), kind)
        self.assertEqual(len(set(ALL)), 11)

    def test_are_caught_as_these_and_no_others(self):
        made = [kind("anna") for kind, _ in ONE_VALUE] + [NoBar("anna", "bert")] + [kind("why") for kind in OF_TEXT]
        for error, kind in zip(made, ALL):
            self.assertIsInstance(error, LotError)
            self.assertIsInstance(error, ValueError)
            for other in ALL:
                self.assertEqual(isinstance(error, other), other is kind)
            with self.assertRaises(kind):
                raise error

    def test_there_are_no_others(self):
        found = [thing for thing in vars(errors).values() if isinstance(thing, type) and issubclass(thing, LotError)]
        self.assertEqual(set(found), {LotError, *ALL})

    def test_keep_their_value_by_place_and_by_name(self):
        for kind, word in ONE_VALUE:
            for thing in [*no_names(), "anna", 3]:
                self.assertTrue(same_kind(vars(kind(thing))[word], thing), (kind, thing))
                self.assertTrue(same_kind(vars(kind(**{word: thing}))[word], thing), (kind, thing))

    def test_no_bar_keeps_two(self):
        for thing in no_names():
            for error in (NoBar(thing, "bert"), NoBar(taker="bert", giver=thing)):
                self.assertTrue(same_kind(error.giver, thing))
                self.assertEqual(error.taker, "bert")
            for error in (NoBar("anna", thing), NoBar(giver="anna", taker=thing)):
                self.assertEqual(error.giver, "anna")
                self.assertTrue(same_kind(error.taker, thing))

    def test_two_keep_each_its_own(self):
        for kind, word in ONE_VALUE:
            one, other = kind("anna"), kind(["bert"])
            self.assertEqual(vars(one)[word], "anna")
            self.assertEqual(vars(other)[word], ["bert"])
        one, other = NoBar("anna", "bert"), NoBar("cleo", "dora")
        self.assertEqual((one.giver, one.taker, other.giver, other.taker), ("anna", "bert", "cleo", "dora"))

    def test_keep_copies(self):
        makers = [(kind, word) for kind, word in ONE_VALUE]
        makers += [(lambda thing: NoBar(thing, "x"), "giver"), (lambda thing: NoBar("x", thing), "taker")]
        for maker, word in makers:
            rows, table = ["anna", ([1],)], {"a": [1]}
            error, other = maker(rows), maker(table)
            said = str(error)
            rows[1][0].append(2)
            rows.append("bert")
            table["a"].append(2)
            table["b"] = 3
            self.assertEqual(vars(error)[word], ["anna", ([1],)])
            self.assertEqual(vars(other)[word], {"a": [1]})
            self.assertEqual(str(error), said)
            vars(error)[word].append("cleo")
            self.assertEqual(len(rows), 3)

    def test_values_are_needed(self):
        for kind in ALL[:8]:
            with self.assertRaises(TypeError):
                kind()

    def test_made_with_a_text(self):
        for kind in [*OF_TEXT, LotError]:
            self.assertEqual(str(kind("why so")), "why so")


if __name__ == "__main__":
    unittest.main()
