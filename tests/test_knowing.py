"""may_by: the pairs that may be by what is known."""

import unittest

from lotgivers.circles import Circle
from lotgivers.errors import NoMember
from lotgivers.knowing import may_by
from things import all_pairs, free, letters, no_names, only, same_kind, subsets

THREE = ("anna", "bert", "cleo")


def expected(pairs, known):
    """The pairs that may be by the words of the document, one after the other."""
    told = []
    for giver, taker in sorted(pairs):
        false = (giver, taker, False) in known
        true = [row[:2] for row in known if row[2] and (row[0] == giver or row[1] == taker)]
        if not false and all(row == (giver, taker) for row in true):
            told.append((giver, taker))
    return tuple(told)


class TestMayBy(unittest.TestCase):
    def check(self, circle, known, told):
        for _ in range(2):
            self.assertEqual(may_by(circle, known), told)
        self.assertEqual(may_by(known=known, circle=circle), told)
        self.assertIs(type(may_by(circle, known)), tuple)

    def test_nothing_known(self):
        for known in (None, ()):
            self.check(Circle(()), known, ())
            self.check(free("anna"), known, ())
            self.check(free(*THREE), known, tuple(all_pairs(THREE)))
            self.check(Circle((("anna", "elm"), ("bert", "elm"), ("cleo", ""))), known, (
                ("anna", "cleo"), ("bert", "cleo"), ("cleo", "anna"), ("cleo", "bert"),
            ))
            self.check(free("anna", "bert", past=((("anna", "bert"),),)), known, (("bert", "anna"),))
            self.check(free("anna", "bert", past=((("anna", "bert"),),), gap=0), known, tuple(all_pairs(THREE[:2])))

    def test_false(self):
        self.check(free(*THREE), (("anna", "bert", False),), tuple(all_pairs(THREE)[1:]))
        self.check(free(*THREE), (("anna", "bert", False), ("cleo", "bert", False)), tuple(all_pairs(THREE)[1:5]))

    def test_true(self):
        self.check(free(*THREE), (("anna", "bert", True),), (
            ("anna", "bert"), ("bert", "anna"), ("bert", "cleo"), ("cleo", "anna"),
        ))
        self.check(free(*THREE), (("anna", "bert", True), ("bert", "cleo", True)), (
            ("anna", "bert"), ("bert", "cleo"), ("cleo", "anna"),
        ))

    def test_true_and_false(self):
        self.check(free(*THREE), (("anna", "bert", True), ("bert", "cleo", False)), (
            ("anna", "bert"), ("bert", "anna"), ("cleo", "anna"),
        ))

    def test_true_of_a_pair_that_may_not_be(self):
        self.check(free(*THREE, bars=(("anna", "bert"),)), (("anna", "bert", True),), (
            ("bert", "anna"), ("bert", "cleo"), ("cleo", "anna"),
        ))
        self.check(free(*THREE), (("anna", "anna", True),), (("bert", "cleo"), ("cleo", "bert")))

    def test_false_of_a_pair_that_may_not_be(self):
        self.check(free(*THREE), (("anna", "anna", False),), tuple(all_pairs(THREE)))

    def test_two_true_of_one_giver(self):
        self.check(free(*THREE), (("anna", "bert", True), ("anna", "cleo", True)), (
            ("bert", "anna"), ("cleo", "anna"),
        ))

    def test_two_true_of_one_taker(self):
        self.check(free(*THREE), (("anna", "cleo", True), ("bert", "cleo", True)), (
            ("cleo", "anna"), ("cleo", "bert"),
        ))

    def test_all_knowledge_of_three_on_some_circles(self):
        everything = [(one, two) for one in THREE for two in THREE]
        for known in subsets(everything):
            for truths in range(0, 2 ** len(known), 1 + 2 ** len(known) // 9):
                rows = tuple((*pair, bool(truths >> at & 1)) for at, pair in enumerate(known))
                for pairs in (all_pairs(THREE), all_pairs(THREE)[::2], []):
                    self.check(only(THREE, pairs), rows, expected(pairs, rows))

    def test_twenty_four_members(self):
        names = letters(24)
        pairs = all_pairs(names)
        known = tuple((giver, taker, at % 20 == 0) for at, (giver, taker) in enumerate(pairs) if at % 5 == 0)
        self.check(free(*names), known, expected(pairs, known))


class TestNoMember(unittest.TestCase):
    def refused(self, circle, known, thing):
        for _ in range(2):
            with self.assertRaises(NoMember) as caught:
                may_by(circle, known)
            self.assertTrue(same_kind(caught.exception.name, thing), caught.exception.name)

    def test_the_first_name_as_it_stands(self):
        circle = free(*THREE)
        for known, name in [
            ((("zoe", "anna", True),), "zoe"), ((("anna", "zoe", True),), "zoe"), ((("zoe", "yuri", False),), "zoe"),
            ((("yuri", "zoe", False),), "yuri"),
            ((("anna", "bert", True), ("anna", "zoe", False), ("xenia", "anna", True)), "zoe"),
            ((("anna", "zoe", True), ("bert", "aaa", True)), "zoe"),
            ((("aaa", "zoe", True), ("bert", "bbb", True)), "aaa"),
            ((("anna", "bert", False), ("zoe", "bert", False)), "zoe"),
        ]:
            self.refused(circle, known, name)

    def test_of_nobody_and_of_names_in_bars(self):
        self.refused(Circle(()), (("anna", "bert", True),), "anna")
        self.refused(free("anna", bars=(("anna", "zoe"),)), (("anna", "zoe", False),), "zoe")

    def test_of_anything(self):
        for thing in no_names():
            self.refused(free(*THREE), ((thing, "anna", True),), thing)
            self.refused(free(*THREE), (("anna", thing, True),), thing)

    def test_what_is_handed_in_stays(self):
        circle, known = free(*THREE), (("anna", "bert", True), ("bert", "zoe", False))
        self.refused(circle, known, "zoe")
        self.assertEqual(circle, free(*THREE))
        self.assertEqual(known, (("anna", "bert", True), ("bert", "zoe", False)))


if __name__ == "__main__":
    unittest.main()
