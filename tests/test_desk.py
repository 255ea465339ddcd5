"""Desk: each form of a row, rows that are of none, and what the club, or what is asked of its circle, refuses."""

import copy
import re
import unittest

from lotgivers.clubs import Club
from lotgivers.counting import many
from lotgivers.desk import Desk
from lotgivers.errors import LotError, NoBack, NoBar, NoMember, NoNumber, NoRow, NoYear, TooFew, TooMany, Twice
from lotgivers.finding import some_drawing
from lotgivers.reading import read_circle
from lotgivers.ringlooks import shows_ring
from lotgivers.shares import share
from lotgivers.telling import tells
from lotgivers.years import years
from things import Asking, letters, no_names

FOUR = ("anna", "bert", "cleo", "dora")
# A row of each form that goes at a desk of these four, of whom one is barred, a year being drawn.
ROWS = (
    "join emil", "join emil elm", "leave anna", "bar bert anna", "unbar anna bert", "back", "draw 0", "fall anna",
    "come emil", "come emil elm", "many", "why anna bert", "share anna cleo", "tells anna cleo", "years", "ring", "circle",
)

# All forms; a word of one of them may be a name in another one, too.
FORM = re.compile(
    "(join|come) N( N)?|(leave|fall) N|(bar|unbar|why|share|tells) N N|draw (0|[1-9][0-9]{0,29})"
    "|back|many|years|ring|circle".replace("N", "[a-z]{1,12}")
)


def desk_of(names=FOUR, *rows):
    """A desk to whom these have come, and at which these rows were said."""
    desk = Desk()
    for name in names:
        desk.say(f"join {name}")
    for row in rows:
        desk.say(row)
    return desk


def ready():
    """A desk at which each of the rows goes."""
    return desk_of(FOUR, "bar anna bert", "draw 0")


def gifts(drawing):
    """The drawing in one row, by the words of the document."""
    return " ".join(giver + ">" + taker for giver, taker in drawing.pairs) or "-"


class Saying(Asking):
    def said(self, desk, row, told):
        """That this is told to the row."""
        answer = desk.say(row)
        self.assertIs(type(answer), str)
        self.assertEqual(answer, told, row)

    def asked(self, desk, row, told):
        """That this is told to the row, each time it is asked, and nothing changes."""
        before = self.all_of(desk)
        for _ in range(2):
            self.said(desk, row, told)
        self.assertEqual(desk.say(row=row), told)
        self.assertEqual(self.all_of(desk), before)

    def all_of(self, desk):
        """The desk's text by now, and ahead of each of its deeds."""
        desk = copy.deepcopy(desk)
        texts = [desk.say("circle")]
        while True:
            try:
                desk.say("back")
            except NoBack:
                return texts
            texts.append(desk.say("circle"))

    def is_refused(self, desk, row, refusal, *borne):
        """That the row is refused so, and nothing changes."""
        before = self.all_of(desk)
        for _ in range(2):
            with self.assertRaises(LotError) as caught:
                desk.say(row)
            self.assertIs(type(caught.exception), refusal, row)
            self.assertEqual(tuple(vars(caught.exception).values()), borne)
        self.assertEqual(self.all_of(desk), before)


class TestRows(Saying):
    def test_a_day_at_the_desk(self):
        desk = Desk()
        for row, told in [
            ("circle", "circle 1"), ("many", "1"), ("draw 0", "-"), ("circle", "circle 1\nyear"), ("back", "done"),
            ("join bert elm", "done"), ("join anna", "done"), ("circle", "circle 1\nmember anna\nmember bert elm"),
            ("many", "1"), ("draw 7", "anna>bert bert>anna"), ("why anna bert", "past"), ("many", "0"), ("ring", "-"),
            ("years", "0"), ("tells anna bert", "none"), ("back", "done"), ("join cleo", "done"), ("many", "2"),
            ("draw 1", "anna>cleo bert>anna cleo>bert"), ("why anna bert", "-"), ("why bert anna", "past"), ("why cleo cleo", "self"), ("many", "1"),
            ("ring", "anna bert cleo"), ("years", "1"), ("share anna bert", "1/1"), ("share bert anna", "0/1"),
            ("tells anna bert", "sure"), ("tells bert anna", "never"), ("bar anna bert", "done"), ("why anna bert", "bar"),
            ("many", "0"), ("unbar anna bert", "done"), ("leave bert", "done"), ("join bert", "done"),
            ("circle", "circle 1\nmember anna\nmember bert\nmember cleo\nyear\n  anna > cleo\n  bert > anna\n  cleo > bert"),
            ("fall bert", "anna>cleo cleo>anna"), ("back", "done"), ("come dora cleo", None), ("back", "done"),
            ("back", "done"), ("circle", "circle 1\nmember anna\nmember cleo\nyear\n  anna > cleo\n  bert > anna\n  cleo > bert"),
        ]:
            if told is None:
                desk.say(row)
            else:
                self.said(desk, row, told)

    def test_deeds_against_a_club(self):
        desk, club = Desk(), Club()
        for row, deed, *things in [
            ("join anna", "join", "anna"), ("join bert elm", "join", "bert", "elm"), ("join cleo", "join", "cleo"),
            ("join dora", "join", "dora"), ("join emil oak", "join", "emil", "oak"),
            ("bar anna bert", "bar", "anna", "bert"), ("bar bert anna", "bar", "bert", "anna"), ("draw 3", "draw", 3),
            ("unbar anna bert", "unbar", "anna", "bert"), ("back", "back"), ("draw 123456", "draw", 123456),
            ("fall cleo", "fall", "cleo"), ("come cleo", "come", "cleo"), ("come zoe oak", "come", "zoe", "oak"),
            ("leave zoe", "leave", "zoe"), ("back", "back"), ("back", "back"), ("draw 5", "draw", 5),
        ]:
            told = getattr(club, deed)(*things)
            self.said(desk, row, "done" if told is None else gifts(told))
            self.asked(desk, "circle", str(club))
            self.assertEqual(str(read_circle(desk.say("circle"))), str(club))
        with self.assertRaises(NoRow):
            desk.say("last")

    def test_what_is_asked_of_the_circle(self):
        for names, rows in [
            (FOUR, ()), (FOUR, ("bar anna bert", "draw 2")), (letters(7), ("draw 100", "draw 5")), (letters(2), ()),
            (letters(3), ("draw 1",)), (("anna",), ()), (letters(8), ("bar aa ab", "bar aa ac")),
        ]:
            desk = desk_of(names, *rows)
            circle = read_circle(desk.say("circle"))
            whole = many(circle)
            self.asked(desk, "many", str(whole))
            self.asked(desk, "years", str(len(years(circle)[0])))
            told = desk.say("ring")
            self.assertTrue(told == "-" or shows_ring(circle, tuple(told.split(" "))))
            self.asked(desk, "ring", told)
            for giver in names:
                for taker in names[:3]:
                    self.asked(desk, f"why {giver} {taker}", circle.reason(giver, taker) or "-")
                    self.asked(desk, f"tells {giver} {taker}", tells(circle, None, giver, taker)[0])
                    if whole:
                        self.asked(desk, f"share {giver} {taker}", str(share(circle, giver, taker)))
                    else:
                        self.is_refused(desk, f"share {giver} {taker}", NoNumber, 0)

    def test_lots(self):
        desk = desk_of(letters(5))
        for lot in [0, 1, 9, 10, 43, 44, 10 ** 29, 10 ** 30 - 1, 123456789012345678901234567890]:
            club = Club()
            for name in letters(5):
                club.join(name)
            self.said(desk, f"draw {lot}", gifts(club.draw(lot)))
            self.said(desk, "back", "done")
        for figures in range(1, 31):
            self.assertEqual(len(desk.say("draw " + "7" * figures).split(" ")), 5)
            desk.say("back")

    def test_two_beside_each_other(self):
        one, other = Desk(), Desk()
        self.said(one, "join anna", "done")
        self.said(other, "circle", "circle 1")
        self.said(other, "join bert elm", "done")
        self.said(one, "join bert", "done")
        self.said(one, "circle", "circle 1\nmember anna\nmember bert")
        self.said(other, "circle", "circle 1\nmember bert elm")
        self.said(one, "draw 0", "anna>bert bert>anna")
        self.is_refused(other, "fall bert", NoYear)
        self.said(other, "back", "done")
        self.is_refused(other, "back", NoBack)
        self.said(one, "back", "done")

    def test_twenty_four_members(self):
        names = letters(24)
        desk = desk_of(names)
        self.asked(desk, "why aa ab", "-")
        self.asked(desk, "tells aa ab", "open")
        self.is_refused(desk, "many", TooMany, 24)
        self.is_refused(desk, "draw 0", TooMany, 24)
        self.is_refused(desk, "share aa ab", TooMany, 24)
        self.is_refused(desk, "years", TooMany, 24)
        self.is_refused(desk, "ring", TooMany, 24)
        self.assertEqual(len(some_drawing(read_circle(desk.say("circle")))), 24)


class TestNoRow(Saying):
    def test_each_form_goes(self):
        self.assertEqual(len({row.split(" ")[0] for row in ROWS}), 15)
        for row in ROWS:
            self.assertTrue(FORM.fullmatch(row))
            ready().say(row)

    def test_a_word_more_or_fewer(self):
        for row in ROWS:
            words = row.split(" ")
            for at in range(len(words) + 1):
                for more in ("zoe", "1", "", "join", "many"):
                    other = " ".join(words[:at] + [more] + words[at:])
                    if not FORM.fullmatch(other):
                        self.is_refused(ready(), other, NoRow)
            for at in range(len(words)):
                other = " ".join(words[:at] + words[at + 1:])
                if not FORM.fullmatch(other):
                    self.is_refused(ready(), other, NoRow)
                self.is_refused(ready(), " ".join(words[:at] + [""] + words[at + 1:]), NoRow)
        for word in ("join", "come"):
            self.is_refused(ready(), f"{word} emil elm oak", NoRow)

    def test_words_that_are_no_names(self):
        for row in ROWS:
            words = row.split(" ")
            for at in range(len(words)):
                for word in [
                    "Emil", "emil1", "emil-", "e_mil", "1", "-", "~", "abcdefghijklm", "a" * 3900, "anna\n", "\nanna",
                    "an\nna", words[at].upper(), words[at] + "\n", "\t" + words[at], ">",
                ]:
                    if words[0] != "draw" or at == 0 or word not in ("1", "0"):
                        self.is_refused(ready(), " ".join(words[:at] + [word] + words[at + 1:]), NoRow)

    def test_words_that_are_no_lots(self):
        for lot in [
            "", "00", "01", "007", "-1", "-0", "+1", "1.0", "1e3", "1_000", "0x1", "a", "anna", "1a", "a1", "1" * 31,
            "0" * 30, "0" + "1" * 29, "9" * 31, "1" * 3990, "1 1", "1 ", " 1", "1\n", "None", "True", "~",
        ]:
            self.is_refused(ready(), f"draw {lot}", NoRow)
        for row in ("fall 1", "join 1", "why 1 2", "leave 0"):
            self.is_refused(ready(), row, NoRow)

    def test_no_words(self):
        for row in ["", " ", "  ", "\n", "anna", "done", "last", "members", "gap 1", "JOIN emil", "Join emil", "joi emil"]:
            self.is_refused(ready(), row, NoRow)
        for row in ROWS:
            self.is_refused(ready(), row + "\n" + row, NoRow)

    def test_of_anything(self):
        desk = ready()
        for thing in [*no_names(), *[row.encode() for row in ROWS], *[row.split(" ") for row in ROWS], ROWS, Desk(), Club()]:
            self.is_refused(desk, thing, NoRow)

    def test_is_told_with_a_text(self):
        with self.assertRaises(NoRow) as caught:
            Desk().say("jump")
        self.assertTrue(str(caught.exception))


class TestRefusals(Saying):
    def test_of_the_club(self):
        desk = ready()
        for row, refusal, *borne in [
            ("join anna", Twice, "anna"), ("join anna elm", Twice, "anna"), ("leave zoe", NoMember, "zoe"),
            ("bar zoe yuri", NoMember, "zoe"), ("bar anna yuri", NoMember, "yuri"), ("bar anna bert", Twice, "anna"),
            ("unbar bert anna", NoBar, "bert", "anna"), ("unbar zoe yuri", NoBar, "zoe", "yuri"),
            ("fall zoe", NoMember, "zoe"), ("come anna", Twice, "anna"), ("come dora elm", Twice, "dora"),
            ("why zoe yuri", NoMember, "zoe"), ("why anna yuri", NoMember, "yuri"), ("share zoe yuri", NoMember, "zoe"),
            ("share anna yuri", NoMember, "yuri"), ("tells zoe yuri", NoMember, "zoe"), ("tells anna zoe", NoMember, "zoe"),
        ]:
            self.is_refused(desk, row, refusal, *borne)

    def test_of_years(self):
        self.is_refused(desk_of(), "fall anna", NoYear)
        self.is_refused(desk_of(), "come emil", NoYear)
        self.is_refused(desk_of(FOUR, "draw 0", "join emil"), "fall anna", NoYear)
        self.is_refused(desk_of(FOUR, "draw 0", "leave anna"), "come emil", NoYear)
        self.is_refused(desk_of(FOUR[:2], "draw 0"), "fall anna", TooFew, ("bert",))
        self.is_refused(desk_of(FOUR[:2], "draw 0"), "draw 0", NoNumber, 0)
        self.is_refused(desk_of(FOUR[:1]), "draw 12", NoNumber, 12)
        self.is_refused(desk_of(FOUR[:1]), "share anna anna", NoNumber, 0)

    def test_nobody(self):
        desk = Desk()
        self.is_refused(desk, "back", NoBack)
        self.is_refused(desk, "years", NoMember, "")
        self.is_refused(desk, "ring", NoMember, "")
        self.is_refused(desk, "fall anna", NoMember, "anna")
        self.is_refused(desk, "come anna", NoYear)
        self.is_refused(desk, "why anna anna", NoMember, "anna")
        self.asked(desk, "many", "1")
        self.asked(desk, "circle", "circle 1")

    def test_too_many(self):
        for many_members, rows in {
            9: {"ring": 9}, 11: {"many": 11, "draw 3": 11, "share aa aa": 11, "ring": 11},
            17: {"years": 17, "ring": 17, "many": 17},
        }.items():
            desk = desk_of(letters(many_members))
            for row, told in rows.items():
                self.is_refused(desk, row, TooMany, told)
        self.asked(desk_of(letters(16)), "years", "15")
        self.asked(desk_of(letters(10)), "many", "1334961")
        self.assertEqual(len(desk_of(letters(8)).say("ring").split(" ")), 8)

    def test_what_is_refused_is_no_deed(self):
        desk = desk_of(("anna", "bert"))
        for row in ("join anna", "leave zoe", "unbar anna bert", "jump", "fall anna", "come cleo", "bar anna zoe"):
            with self.assertRaises(LotError):
                desk.say(row)
        self.said(desk, "back", "done")
        self.said(desk, "circle", "circle 1\nmember anna")
        self.said(desk, "back", "done")
        self.is_refused(desk, "back", NoBack)


if __name__ == "__main__":
    unittest.main()
