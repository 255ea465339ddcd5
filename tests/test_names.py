"""is_name: texts of 1 to 12 small letters, and nothing else."""

import unittest

from lotgivers.names import is_name
from lotgivers.shapes import are_names, are_pairs
from things import no_names, oddities


class TestNames(unittest.TestCase):
    def test_names(self):
        for name in ["a", "z", "m", "ab", "anna", "zzzzzzzzzzzz", "abcdefghijkl", "mnopqrstuvwx", "yz"]:
            self.assertIs(is_name(name), True, name)

    def test_lengths(self):
        for many in range(40):
            self.assertIs(is_name("q" * many), 1 <= many <= 12, many)

    def test_signs(self):
        small = "abcdefghijklmnopqrstuvwxyz"
        for number in range(256):
            for text in (chr(number), "a" + chr(number), chr(number) + "a", "a" + chr(number) + "a"):
                self.assertIs(is_name(text), chr(number) in small, text)

    def test_things_of_all_kinds(self):
        for thing in no_names():
            self.assertIs(is_name(thing), False)

    def test_by_its_told_name(self):
        self.assertIs(is_name(thing="anna"), True)

    def test_tuples_of_names(self):
        self.assertTrue(are_names(()))
        self.assertTrue(are_names(("anna", "bert", "cleo")))
        for wrong in [("bert", "anna"), ("anna", "anna"), ("anna", ""), ["anna"], "anna", ("anna", 1), (("anna",),)]:
            self.assertFalse(are_names(wrong))

    def test_tuples_of_pairs(self):
        self.assertTrue(are_pairs(()))
        self.assertTrue(are_pairs((("anna", "anna"), ("anna", "bert"), ("bert", "anna"))))
        for thing in oddities():
            self.assertFalse(are_pairs(thing))
            self.assertFalse(are_pairs((thing,)))
            self.assertFalse(are_pairs((("anna", thing),)))
            self.assertFalse(are_names(thing))
            self.assertFalse(are_names((thing,)))


if __name__ == "__main__":
    unittest.main()
