"""read_circle and read_drawing: texts read as they were written, and the row where others go wrong."""

import copy
import random
import unittest
from itertools import permutations

from lotgivers.circles import Circle, is_circle
from lotgivers.drawings import Drawing
from lotgivers.errors import NoDrawing, NoText
from lotgivers.reading import read_circle, read_drawing
from things import Asking, chance_circle, free, letters, no_names, same_kind, subsets

SIGNS = ("", " ", "\n", "a", "z", "A", "0", "7", ">", "-", "~", "_", "a ", " a", "\n\n", " > ")
FAMILY = Circle(
    (("anna", "elm"), ("bert", ""), ("cleo", "elm"), ("dora", "oak")),
    (("anna", "bert"), ("bert", "zoe"), ("xaver", "yuri")),
    ((("anna", "dora"), ("bert", "cleo")), (), (("dora", "anna"), ("dora", "bert"), ("zoe", "zoe"))),
    12,
)


def circle_of(rows):
    """The circle of these rows, None where they are no circle's text: made without a look at them, then written."""
    members, bars, past = [], [], []
    if not rows or not rows[0].startswith("circle ") or not rows[0][7:].isdigit() or len(rows[0]) > 37:
        return None
    for row in rows[1:]:
        words = row.split()
        if words[:1] == ["member"] and len(words) in (2, 3):
            members.append((words[1], (words + [""])[2]))
        elif words[:1] == ["bar"] and len(words) == 3:
            bars.append((words[1], words[2]))
        elif words == ["year"]:
            past.append([])
        elif len(words) == 3 and past:
            past[-1].append((words[0], words[2]))
    told = (tuple(members), tuple(bars), tuple(map(tuple, past)), int(rows[0][7:]))
    if not is_circle(*told) or str(Circle(*told)) != "\n".join(rows):
        return None
    return Circle(*told)


def wrong_row_of_circle(text):
    """The first row up to which no circle's text begins so: what is ahead of a row of one is one, too."""
    rows = text.split("\n")
    return next(at for at in range(len(rows)) if circle_of(rows[:at + 1]) is None)


def begins_drawing(rows):
    """Whether a drawing's text begins with these rows: whether it is one where who has to give does so next."""
    pairs = [tuple(row.split(" > ")) for row in rows]
    if not all(len(pair) == 2 for pair in pairs):
        return False
    givers, takers = [pair[0] for pair in pairs], [pair[1] for pair in pairs]
    to_give = sorted(set(takers) - set(givers))
    to_take = [giver for giver in givers if giver not in takers]
    try:
        drawing = Drawing((*pairs, *zip(to_give, to_take)))
    except NoDrawing:
        return False
    return str(drawing).split("\n")[:len(rows)] == rows


def wrong_row_of_drawing(text):
    """The first row up to which no drawing's text begins so, or how many rows there are where more must come."""
    rows = text.split("\n")
    return next((at for at in range(len(rows)) if not begins_drawing(rows[:at + 1])), len(rows))


def others_of(text, signs=SIGNS):
    """This text with one thing otherwise, at any place."""
    rows = text.split("\n")
    told = ["\n".join(rows[:at]) for at in range(len(rows))]
    for at, row in enumerate(rows):
        ahead, behind = rows[:at], rows[at + 1:]
        told += ["\n".join(ahead + behind), "\n".join(ahead + [row, row] + behind)]
        told += ["\n".join(ahead + behind[:1] + [row] + behind[1:]), "\n".join(ahead + behind[:2] + [row] + behind[2:])]
        told += ["\n".join([row] + ahead + behind), "\n".join(ahead + behind + [row])]
        words = row.split(" ")
        for place, word in enumerate(words):
            for more in ([], [word, word], [words[place - 1]]):
                told.append("\n".join(ahead + [" ".join(words[:place] + more + words[place + 1:])] + behind))
    for at in range(len(text) + 1):
        told += [text[:at] + sign + text[at:] for sign in signs]
        told += [text[:at] + sign + text[at + 1:] for sign in signs]
    return [other for other in told if other != text]


def chance_drawing(names, seed):
    """A drawing of some of these, as chance has it; they may give to themselves."""
    chance = random.Random(seed)
    some = sorted(chance.sample(names, chance.randrange(len(names) + 1)))
    return Drawing(tuple(zip(some, chance.sample(some, len(some)))))


class TestReadCircle(Asking):
    def read(self, circle):
        text = str(circle)
        for told in (read_circle(text), read_circle(text=text)):
            self.assertIs(type(told), Circle)
            self.assertEqual(told, circle)
            self.assertTrue(is_circle(told.members, told.bars, told.past, told.gap))
            self.assertEqual(str(told), text)

    def check(self, text):
        """That the text is read as what it is the text of, or refused with the row that the test finds."""
        circle = circle_of(text.split("\n"))
        if circle is None:
            self.refused(NoText, wrong_row_of_circle(text), read_circle, text)
        else:
            self.assertEqual(read_circle(text), circle)
            self.assertEqual(str(read_circle(text)), text)

    def test_circles_of_all_kinds(self):
        for circle in [
            FAMILY, Circle(()), Circle((), gap=0), Circle((), gap=10 ** 30 - 1), Circle((), past=((),)),
            Circle((), past=((), (), ())), Circle((), (("anna", "anna"),), ((("zoe", "anna"),), ())),
            free("anna"), free("anna", "bert"), Circle((("anna", "anna"), ("bert", "anna"))),
            Circle((("a", ""), ("aa", "a"), ("abcdefghijkl", "mnopqrstuvwx"))),
            Circle((("bar", "bar"), ("circle", "year"), ("member", ""), ("year", "member")), (("bar", "year"),)),
            free(*letters(24), past=tuple(tuple(zip(letters(24), letters(24)[at:])) for at in range(10)), gap=10),
            free(*letters(24), bars=tuple((giver, taker) for giver in letters(24)[:12] for taker in letters(24))),
        ]:
            self.read(circle)

    def test_many_circles(self):
        for seed in range(200):
            self.read(chance_circle("abcdefgh"[:1 + seed % 8], seed))

    def test_gaps(self):
        for figures in range(1, 31):
            for gap in (10 ** (figures - 1), 10 ** figures - 1):
                self.read(Circle((("anna", ""),), gap=gap))
        for gap in [
            "", "00", "01", "007", "-1", "-0", "+1", " 1", "1 ", "1 1", "a", "1a", "0x1", "1_0", "1.0", "1e3", "~",
            "1" * 31, "0" * 30, "9" * 31, "1" * 3990, "0" + "1" * 29, "1" * 29 + " ", "one", "True", "None",
        ]:
            for behind in ("", "\nmember anna", "\nmember"):
                self.refused(NoText, 0, read_circle, f"circle {gap}{behind}")

    def test_texts_otherwise_at_any_place(self):
        found = 0
        for circle in [FAMILY, Circle((("anna", ""), ("bert", "elm"))), Circle((), past=((("a", "b"), ("a", "c")), ()))]:
            for text in others_of(str(circle)):
                self.check(text)
                found += circle_of(text.split("\n")) is not None
        # Some are texts of other circles.
        self.assertGreater(found, 50)

    def test_circles_as_chance_has_it_otherwise(self):
        for seed in range(12):
            for text in others_of(str(chance_circle("abcde"[:1 + seed % 5], seed)), ("", " ", "\n", "a", "z"))[::5]:
                self.check(text)

    def test_what_does_not_rise(self):
        for row, text in [
            (2, "circle 1\nmember bert\nmember anna"), (2, "circle 1\nmember anna\nmember anna"),
            (2, "circle 1\nmember anna elm\nmember anna oak"), (2, "circle 1\nmember anna\nmember anna elm"),
            (3, "circle 1\nmember anna\nmember cleo\nmember bert"), (2, "circle 1\nbar a b\nbar a b"),
            (2, "circle 1\nbar a b\nbar a a"), (2, "circle 1\nbar b a\nbar a b"), (2, "circle 1\nbar a b\nmember anna"),
            (3, "circle 1\nyear\n  a > b\n  a > b"), (3, "circle 1\nyear\n  b > a\n  a > b"),
            (3, "circle 1\nyear\n  a > b\n  a > a"), (2, "circle 1\nyear\nbar a b"), (2, "circle 1\nyear\nmember a"),
            (1, "circle 1\n  a > b"), (1, "circle 1\ncircle 1"), (3, "circle 1\nyear\nyear\ncircle 1"),
            (2, "circle 1\nbar a b\n  a > b"), (2, "circle 1\nmember a\n  a > b"), (1, "circle 1\na"),
            (0, "member a\ncircle 1"), (0, "year"), (0, "bar a b"), (0, "  a > b"), (0, " circle 1"), (0, "circle"),
            (0, "circle 1 "), (0, "Circle 1"), (0, "circle  1"), (0, "circle\n1"), (0, "\ncircle 1"), (0, ""), (0, "\n"),
            (1, "circle 1\n"), (2, "circle 1\nmember a\n"), (1, "circle 1\n\nmember a"), (1, "circle 1\nmember"),
            (1, "circle 1\nmember "), (1, "circle 1\nmember a "), (1, "circle 1\nmember  a"), (1, "circle 1\nmember a  b"),
            (1, "circle 1\nmember a b c"), (1, "circle 1\nmember A"), (1, "circle 1\nmember a B"),
            (1, "circle 1\nmember abcdefghijklm"), (1, "circle 1\nmember a abcdefghijklm"), (1, "circle 1\nmembers a"),
            (1, "circle 1\nbar a"), (1, "circle 1\nbar a b c"), (1, "circle 1\nbar a b "), (1, "circle 1\nbar  a b"),
            (1, "circle 1\nyear "), (1, "circle 1\n year"), (1, "circle 1\nyear 1"), (1, "circle 1\nyears"),
            (2, "circle 1\nyear\n a > b"), (2, "circle 1\nyear\n   a > b"), (2, "circle 1\nyear\na > b"),
            (2, "circle 1\nyear\n  a  > b"), (2, "circle 1\nyear\n  a >  b"), (2, "circle 1\nyear\n  a > b "),
            (2, "circle 1\nyear\n  a b"), (2, "circle 1\nyear\n  a >"), (2, "circle 1\nyear\n  > b"),
            (2, "circle 1\nyear\n  a < b"), (2, "circle 1\nyear\n  a>b"), (2, "circle 1\nyear\n  A > b"),
            (2, "circle 1\nyear\n"), (2, "circle 1\nyear\n  "), (2, "circle 1\nyear\n  a > b > c"),
        ]:
            self.refused(NoText, row, read_circle, text)

    def test_of_anything(self):
        for thing in no_names():
            self.refused(NoText, 0, read_circle, thing)
        for thing in (FAMILY, str(FAMILY).encode(), [str(FAMILY)], str(FAMILY).split("\n"), str):
            self.refused(NoText, 0, read_circle, thing)

    def test_what_is_read_is_another_circle_each_time(self):
        text = str(FAMILY)
        self.assertIsNot(read_circle(text), read_circle(text))
        thing = [text]
        before = copy.deepcopy(thing)
        self.refused(NoText, 0, read_circle, thing)
        self.assertEqual(thing, before)


class TestReadDrawing(Asking):
    def read(self, drawing):
        text = str(drawing)
        for told in (read_drawing(text), read_drawing(text=text)):
            self.assertIs(type(told), Drawing)
            self.assertEqual(told, drawing)
            self.assertIs(type(told.pairs), tuple)
            self.assertEqual(str(told), text)

    def check(self, text):
        """That the text is read as what it is the text of, or refused with the row that the test finds."""
        rows = text.split("\n")
        row = wrong_row_of_drawing(text)
        pairs = tuple(tuple(one.split(" > ")) for one in rows)
        if text == "":
            self.assertEqual(read_drawing(text), Drawing(()))
        elif row == len(rows) and {pair[0] for pair in pairs} == {pair[1] for pair in pairs}:
            self.assertEqual(read_drawing(text), Drawing(pairs))
            self.assertEqual(str(read_drawing(text)), text)
        else:
            self.refused(NoText, row, read_drawing, text)

    def test_drawings_of_all_kinds(self):
        for drawing in [
            Drawing(()), Drawing((("anna", "anna"),)), Drawing((("anna", "bert"), ("bert", "anna"))),
            Drawing((("a", "a"), ("b", "b"), ("c", "c"))), Drawing((("a", "abcdefghijkl"), ("abcdefghijkl", "a"))),
            Drawing(tuple(zip(letters(24), letters(24)[1:] + letters(24)[:1]))),
        ]:
            self.read(drawing)
        for seed in range(200):
            self.read(chance_drawing(letters(1 + seed % 24), seed))

    def test_all_rows_of_three_names(self):
        # Of the rows of all texts of drawings, and of all others, looked up.
        names = ("a", "b", "c")
        texts = set()
        for some in subsets(names):
            for takers in permutations(some):
                texts.add("\n".join(f"{giver} > {taker}" for giver, taker in zip(some, takers)))
        begins = {tuple(text.split("\n")[:at]) for text in texts for at in range(1, 4)}
        rows = [f"{giver} > {taker}" for giver in names for taker in names]
        for first in rows:
            for second in (None, *rows):
                for third in (None, *rows) if second else (None,):
                    told = tuple(row for row in (first, second, third) if row)
                    text = "\n".join(told)
                    if text in texts:
                        self.assertEqual(str(read_drawing(text)), text)
                    else:
                        wrong = [at for at in range(len(told)) if told[:at + 1] not in begins]
                        self.refused(NoText, (wrong + [len(told)])[0], read_drawing, text)
                    self.check(text)

    def test_texts_otherwise_at_any_place(self):
        drawings = [
            Drawing((("anna", "cleo"), ("bert", "anna"), ("cleo", "dora"), ("dora", "bert"))),
            Drawing((("a", "b"), ("b", "a"), ("c", "d"), ("d", "c"))), Drawing((("anna", "anna"),)),
            Drawing((("a", "d"), ("b", "c"), ("c", "b"), ("d", "a"))),
        ]
        for drawing in [*drawings, *[chance_drawing(letters(5), seed) for seed in range(20)]]:
            for text in others_of(str(drawing)):
                self.check(text)

    def test_rows(self):
        for row, text in [
            (0, "b > a\na > b"), (1, "a > b\na > b"), (1, "a > b\na > c"), (1, "a > b\nb > b"),
            # Of the first one, given to, it is seen one row later that he can't give any more.
            (1, "a > b\nc > a"), (0, "b > a"), (1, "a > a\nc > b"), (2, "a > c\nb > a\nd > b"), (1, "a > a\na > a"),
            # More must come.
            (1, "a > b"), (2, "a > b\nb > c"), (3, "a > d\nb > a\nc > b"), (2, "a > a\nb > c"), (2, "a > b\nb > d"),
            # No row of any text.
            (1, "a > a\n"), (1, "a > b\n"), (2, "a > b\nb > a\n"), (0, "\n"), (0, "\na > a"), (1, "a > a\n\nb > b"),
            (0, " "), (0, " a > a"), (0, "a > a "), (0, "a  > a"), (0, "a >  a"), (0, "a>a"), (0, "a a"), (0, "a > "),
            (0, " > a"), (0, ">"), (0, " > "), (0, "a > a > a"), (0, "A > A"), (0, "a < a"), (0, "a >a"), (0, "anna"),
            (0, "abcdefghijklm > abcdefghijklm"), (0, "  a > a"), (0, "circle 1"), (1, "a > a\n  b > b"), (0, "-"),
        ]:
            self.refused(NoText, row, read_drawing, text)

    def test_long_texts(self):
        names = [first + second for first in "abcdefghijklmnopqrs" for second in "abcdefghijklmnopqrstuvwxyz"][:480]
        order = random.Random(480).sample(names, 480)
        ring = Drawing(tuple(sorted(zip(order, order[1:] + order[:1]))))
        self.assertGreater(len(str(ring)), 3800)
        self.read(ring)
        rows = str(ring).split("\n")
        self.refused(NoText, 479, read_drawing, "\n".join(rows[:-1]))
        self.refused(NoText, 480, read_drawing, str(ring) + "\n")
        self.refused(NoText, 0, read_drawing, "a" * 4000)
        self.refused(NoText, 0, read_circle, "a" * 4000)
        self.refused(NoText, 0, read_drawing, "\n" * 4000)
        self.refused(NoText, 1, read_circle, "circle 1" + "\n" * 3990)
        self.assertEqual(read_circle("circle 1" + "\nyear" * 790).past, ((),) * 790)

    def test_of_anything(self):
        for thing in no_names():
            if not same_kind(thing, ""):
                self.refused(NoText, 0, read_drawing, thing)
        for thing in (Drawing(()), (("anna", "anna"),), ["anna > anna"], b"anna > anna", b"", [], None, ()):
            self.refused(NoText, 0, read_drawing, thing)
        self.assertEqual(read_drawing(""), Drawing(()))


if __name__ == "__main__":
    unittest.main()
