"""Club: deeds and refusals, back deed by deed, and its years against drawn, fallen_out and come_in of its circle."""

import copy
import random
import unittest

from lotgivers.changing import with_one, without
from lotgivers.circles import Circle
from lotgivers.clubs import Club
from lotgivers.counting import drawn, many
from lotgivers.drawings import Drawing, keeps
from lotgivers.errors import LotError, NoBack, NoBar, NoMember, NoNumber, NoYear, TooFew, TooMany, Twice
from lotgivers.mending import come_in, fallen_out
from things import Asking, free, letters, no_names, oddities, same_kind

FOUR = ("anna", "bert", "cleo", "dora")


def club_of(names=FOUR, gap=1):
    """A club of these, without houses."""
    club = Club(gap)
    for name in names:
        club.join(name)
    return club


def ahead_of(circle):
    """The circle with the years ahead of the last one alone."""
    return Circle(circle.members, circle.bars, circle.past[:-1], circle.gap)


def moved(club, deed, *things):
    """What a deed tells, or the class of its refusal with what that bears."""
    try:
        return getattr(club, deed)(*things)
    except LotError as refusal:
        return (type(refusal), *vars(refusal).values())


class Telling(Asking):
    def stands(self, club, circle):
        """That the club's circle is this one by now, and all that it tells of itself is of it."""
        for _ in range(2):
            self.assertIs(type(club.circle()), Circle)
            self.assertEqual(club.circle(), circle)
            self.assertEqual(str(club), str(circle))
            self.assertEqual(len(club), len(circle.past))
            if circle.past:
                self.assertIs(type(club.last()), Drawing)
                self.assertEqual(club.last(), Drawing(circle.past[-1]))
            else:
                self.no_year(club, club.last)

    def nothing_changes(self, club, refusal, borne, deed, *things):
        """That a deed is refused so, changes nothing, and is none that back undoes."""
        before = copy.deepcopy(club)
        self.refused(refusal, borne, deed, *things)
        self.same_deeds(club, before)

    def no_year(self, club, deed, *things):
        before = copy.deepcopy(club)
        for _ in range(2):
            with self.assertRaises(LotError) as caught:
                deed(*things)
            self.assertIs(type(caught.exception), NoYear)
            self.assertTrue(str(caught.exception))
        self.same_deeds(club, before)

    def same_deeds(self, club, before):
        """That both are the same by now, and ahead of each of their deeds."""
        club, before = copy.deepcopy(club), copy.deepcopy(before)
        while True:
            self.assertEqual(club.circle(), before.circle())
            told = moved(club, "back")
            self.assertEqual(moved(before, "back"), told)
            if told is not None:
                return


class TestAtFirst(Telling):
    def test_empty(self):
        for club, gap in [(Club(), 1), (Club(0), 0), (Club(3), 3), (Club(gap=7), 7), (Club(gap=10 ** 30 - 1), 10 ** 30 - 1)]:
            self.stands(club, Circle((), (), (), gap))
            self.assertEqual((club.members, club.bars, club.past, club.gap), ((), (), (), gap))
            self.assertEqual((str(club), len(club)), (f"circle {gap}", 0))
            self.nothing_changes(club, NoMember, "anna", club.leave, "anna")
            with self.assertRaises(LotError) as caught:
                club.back()
            self.assertIs(type(caught.exception), NoBack)
            self.assertTrue(str(caught.exception))

    def test_each_its_own(self):
        one, other = Club(), Club()
        one.join("anna")
        self.stands(one, free("anna"))
        self.stands(other, Circle(()))


class TestMembersAndBars(Telling):
    def test_join_and_leave(self):
        club = Club(2)
        self.assertIsNone(club.join("cleo", "elm"))
        self.assertIsNone(club.join("anna"))
        self.assertIsNone(club.join("bert", ""))
        self.stands(club, Circle((("anna", ""), ("bert", ""), ("cleo", "elm")), (), (), 2))
        self.nothing_changes(club, Twice, "cleo", club.join, "cleo")
        self.nothing_changes(club, Twice, "anna", club.join, "anna", "oak")
        self.assertIsNone(club.leave("bert"))
        self.stands(club, Circle((("anna", ""), ("cleo", "elm")), (), (), 2))
        self.assertIsNone(club.leave(name="anna"))
        self.assertIsNone(club.join("anna", "oak"))
        self.stands(club, Circle((("anna", "oak"), ("cleo", "elm")), (), (), 2))

    def test_leave_of_anything(self):
        for club in (Club(), club_of(("anna",))):
            for thing in [*no_names(), "zoe"]:
                self.nothing_changes(club, NoMember, thing, club.leave, thing)

    def test_bar_and_unbar(self):
        club = club_of(FOUR[:3])
        self.assertIsNone(club.bar("cleo", "anna"))
        self.assertIsNone(club.bar(taker="cleo", giver="anna"))
        self.assertIsNone(club.bar("bert", "bert"))
        bars = (("anna", "cleo"), ("bert", "bert"), ("cleo", "anna"))
        self.stands(club, free(*FOUR[:3], bars=bars))
        self.nothing_changes(club, Twice, "cleo", club.bar, "cleo", "anna")
        self.nothing_changes(club, Twice, "bert", club.bar, "bert", "bert")
        self.no_bar(club, "anna", "bert")
        self.assertIsNone(club.unbar("bert", "bert"))
        self.assertIsNone(club.unbar(taker="anna", giver="cleo"))
        self.stands(club, free(*FOUR[:3], bars=bars[:1]))
        self.assertIsNone(club.bar("bert", "anna"))
        self.stands(club, free(*FOUR[:3], bars=(("anna", "cleo"), ("bert", "anna"))))

    def no_bar(self, club, giver, taker):
        before = copy.deepcopy(club)
        with self.assertRaises(LotError) as caught:
            club.unbar(giver, taker)
        self.assertIs(type(caught.exception), NoBar)
        self.assertTrue(same_kind(caught.exception.giver, giver))
        self.assertTrue(same_kind(caught.exception.taker, taker))
        self.same_deeds(club, before)

    def test_what_is_not_barred(self):
        club = club_of(FOUR)
        club.bar("anna", "bert")
        for giver in (*FOUR, "zoe", ""):
            for taker in (*FOUR, "zoe", ""):
                if (giver, taker) != ("anna", "bert"):
                    self.no_bar(club, giver, taker)
        for thing in oddities():
            self.no_bar(club, thing, "bert")
            self.no_bar(club, "anna", thing)
            self.no_bar(club, thing, thing)
        self.stands(club, free(*FOUR, bars=(("anna", "bert"),)))

    def test_bars_of_who_is_no_member(self):
        club = club_of(FOUR)
        for thing in [*no_names(), "zoe"]:
            self.refused(NoMember, thing, club.bar, thing, "anna")
            self.refused(NoMember, thing, club.bar, "anna", thing)
            self.refused(NoMember, thing, club.bar, thing, thing)
            self.refused(NoMember, thing, club.bar, thing, "yuri")
            self.refused(NoMember, thing, club.fall, thing)
        self.nothing_changes(club, NoMember, "zoe", club.bar, "zoe", "yuri")
        self.nothing_changes(club, NoMember, "yuri", club.bar, "yuri", "zoe")
        self.nothing_changes(club, NoMember, "yuri", club.bar, "anna", "yuri")

    def test_who_leaves_stays_in_bars_and_years(self):
        club = club_of(FOUR)
        club.bar("anna", "bert")
        club.bar("bert", "cleo")
        drawing = club.draw(0)
        club.leave("bert")
        bars = (("anna", "bert"), ("bert", "cleo"))
        self.stands(club, free("anna", "cleo", "dora", bars=bars, past=(drawing.pairs,)))
        # Who is gone can't be barred any more, but what is barred can be unbarred, and holds again later.
        self.nothing_changes(club, NoMember, "bert", club.bar, "bert", "anna")
        self.nothing_changes(club, NoMember, "bert", club.bar, "anna", "bert")
        self.assertIsNone(club.unbar("bert", "cleo"))
        club.join("bert")
        self.stands(club, free(*FOUR, bars=bars[:1], past=(drawing.pairs,)))
        self.nothing_changes(club, Twice, "anna", club.bar, "anna", "bert")
        self.assertEqual(club.circle().reason("anna", "bert"), "bar")


class TestYears(Telling):
    def test_drawn_by_each_lot(self):
        club = club_of(FOUR)
        self.assertEqual(many(club.circle()), 9)
        for lot in [*range(20), 10 ** 29, 10 ** 59]:
            told = club.draw(lot)
            self.assertIs(type(told), Drawing)
            self.assertEqual(told, drawn(free(*FOUR), lot))
            self.stands(club, free(*FOUR, past=(told.pairs,)))
            self.assertIsNone(club.back())
            self.stands(club, free(*FOUR))
        self.assertEqual(club.draw(lot=4), drawn(free(*FOUR), 4))

    def test_years_behind_one_another(self):
        for gap, most in {0: 10, 1: 10, 2: 10, 3: 3, 5: 3}.items():
            club, past = club_of(FOUR, gap), []
            for lot in range(most):
                told = club.draw(lot)
                self.assertEqual(told, drawn(free(*FOUR, past=tuple(past), gap=gap), lot))
                past.append(told.pairs)
                self.stands(club, free(*FOUR, past=tuple(past), gap=gap))
            if most == 3:
                self.nothing_changes(club, NoNumber, 0, club.draw, 0)
                self.assertEqual(many(club.circle()), 0)

    def test_refused(self):
        club = club_of(letters(10))
        self.assertEqual(club.draw(7), drawn(free(*letters(10)), 7))
        club.join("zoe")
        self.nothing_changes(club, TooMany, 11, club.draw, 0)
        self.nothing_changes(club, TooMany, 11, club.draw, None)
        club = club_of(("anna",))
        for lot in (0, 1, 10 ** 59):
            self.nothing_changes(club, NoNumber, lot, club.draw, lot)

    def test_nobody(self):
        club = Club()
        self.assertEqual(club.draw(3), Drawing(()))
        self.stands(club, Circle((), past=((),)))
        self.nothing_changes(club, TooFew, ("anna",), club.come, "anna")
        self.nothing_changes(club, NoMember, "anna", club.fall, "anna")
        self.assertEqual(club.draw(0), Drawing(()))
        self.assertEqual(len(club), 2)

    def test_who_falls(self):
        for lot in range(9):
            for name in FOUR:
                club = club_of(FOUR)
                drawing = club.draw(lot)
                told = club.fall(name)
                self.assertIs(type(told), Drawing)
                self.assertEqual(told, fallen_out(free(*FOUR), drawing, name)[0])
                others = [other for other in FOUR if other != name]
                self.stands(club, free(*others, past=(told.pairs,)))
                self.assertEqual(len(club), 1)
                self.assertIsNone(club.back())
                self.stands(club, free(*FOUR, past=(drawing.pairs,)))
                self.assertEqual(club.fall(name=name), told)

    def test_who_comes(self):
        for lot in range(9):
            for house in ("", "elm"):
                club = club_of(FOUR)
                drawing = club.draw(lot)
                told = club.come("emil", house) if house else club.come("emil")
                self.assertEqual(told, come_in(free(*FOUR), drawing, ("emil", house))[0])
                members = tuple((name, "") for name in FOUR) + (("emil", house),)
                self.stands(club, Circle(members, (), (told.pairs,), 1))
                self.assertIsNone(club.back())
                self.assertEqual(club.come(house=house, name="emil"), told)

    def test_the_years_ahead_are_kept(self):
        # The mended year is none of the last gap ones, but those ahead of it are.
        names = letters(6)
        for gap in (0, 1, 2, 3):
            for lot in range(8):
                club = club_of(names, gap)
                for year in range(3):
                    club.draw(lot * 31 + year * 7)
                circle = ahead_of(club.circle())
                drawing = club.last()
                told = club.fall(names[lot % 6])
                self.assertEqual(told, fallen_out(circle, drawing, names[lot % 6])[0])
                self.assertTrue(keeps(without(circle, names[lot % 6]), told))
                circle, drawing = ahead_of(club.circle()), club.last()
                told = club.come("zoe", "elm")
                self.assertEqual(told, come_in(circle, drawing, ("zoe", "elm"))[0])
                self.assertTrue(keeps(with_one(circle, ("zoe", "elm")), told))
                self.assertEqual(len(club), 3)

    def test_no_year(self):
        club = club_of(FOUR)
        self.no_year(club, club.fall, "anna")
        self.no_year(club, club.come, "emil")
        self.no_year(club, club.last)
        self.nothing_changes(club, NoMember, "emil", club.fall, "emil")
        self.nothing_changes(club, Twice, "anna", club.come, "anna")
        self.nothing_changes(club, Twice, "anna", club.come, "anna", "elm")

    def test_a_year_that_does_not_keep_the_circle_any_more(self):
        names = letters(6)
        for change in [
            lambda club: club.join("emil"), lambda club: club.leave(names[3]),
            lambda club: club.bar(*club.last().pairs[0]), lambda club: (club.leave(names[3]), club.join("emil")),
        ]:
            club = club_of(names)
            club.draw(2)
            club.draw(3)
            change(club)
            self.no_year(club, club.fall, names[0])
            self.no_year(club, club.come, "zoe")
            self.nothing_changes(club, NoMember, "zoe", club.fall, "zoe")
            self.nothing_changes(club, Twice, names[0], club.come, names[0])
            self.assertEqual(club.last(), Drawing(club.circle().past[-1]))
            # A new year keeps it again.
            club.draw(0)
            told = club.come("zoe")
            self.assertIn("zoe", told.names())

    def test_houses_that_came_behind_the_year(self):
        club = club_of(FOUR)
        drawing = club.draw(0)
        giver, taker = drawing.pairs[0]
        for name in (giver, taker):
            club.leave(name)
            club.join(name, "elm")
        self.no_year(club, club.fall, giver)
        # Bars of others, and the year's own pairs, are nothing to it.
        club = club_of(FOUR)
        drawing = club.draw(0)
        club.leave("anna")
        club.join("anna")
        free_pair = next(
            (giver, taker) for giver in FOUR for taker in FOUR
            if giver != taker and (giver, taker) not in drawing.pairs and "anna" not in (giver, taker)
        )
        club.bar(*free_pair)
        told = club.fall("anna")
        self.assertEqual(told, fallen_out(free(*FOUR, bars=(free_pair,)), drawing, "anna")[0])

    def test_too_few(self):
        club = club_of(FOUR[:2])
        club.draw(0)
        self.nothing_changes(club, TooFew, ("anna",), club.fall, "bert")
        club = Club()
        for name, house in (("anna", "elm"), ("bert", "oak")):
            club.join(name, house)
        club.draw(0)
        before = copy.deepcopy(club)
        for house in ("elm", "oak"):
            with self.assertRaises(TooFew) as caught:
                club.come("cleo", house)
            circle = with_one(ahead_of(club.circle()), ("cleo", house))
            lot = caught.exception.lot
            self.assertLess(len({taker for giver in lot for taker in circle.takers(giver)}), len(lot))
            self.same_deeds(club, before)
        self.assertEqual(len(club.come("cleo")), 3)


class TestBack(Telling):
    def test_deed_by_deed(self):
        club, ahead = Club(), []
        for deed, *things in [
            ("join", "anna"), ("join", "bert", "elm"), ("join", "cleo"), ("join", "dora", "oak"), ("bar", "anna", "bert"),
            ("draw", 5), ("fall", "cleo"), ("come", "cleo", "elm"), ("unbar", "anna", "bert"), ("leave", "dora"),
            ("join", "dora"), ("draw", 1), ("draw", 2), ("come", "emil"), ("bar", "emil", "anna"), ("leave", "emil"),
        ]:
            ahead.append(club.circle())
            told = moved(club, deed, *things)
            self.assertTrue(isinstance(told, Drawing) if deed in ("draw", "fall", "come") else told is None, (deed, told))
            self.assertNotEqual(club.circle(), ahead[-1])
        for circle in ahead[::-1]:
            self.assertIsNone(club.back())
            self.stands(club, circle)
        before = copy.deepcopy(club)
        for _ in range(2):
            with self.assertRaises(LotError) as caught:
                club.back()
            self.assertIs(type(caught.exception), NoBack)
        self.same_deeds(club, before)

    def test_a_deed_behind_back(self):
        club = club_of(FOUR)
        club.draw(0)
        club.back()
        club.bar("anna", "bert")
        self.stands(club, free(*FOUR, bars=(("anna", "bert"),)))
        club.back()
        self.stands(club, free(*FOUR))
        for many_left in (3, 2, 1, 0):
            club.back()
            self.assertEqual(len(club.circle()), many_left)

    def test_sixty_deeds(self):
        chance = random.Random(60)
        for seed in range(6):
            club, ahead = Club(seed % 4), []
            while len(ahead) < 60:
                circle = club.circle()
                name, other = chance.sample(letters(9), 2)
                deed = chance.choice(["join", "join", "leave", "bar", "bar", "unbar", "draw", "draw", "fall", "come"])
                things = {
                    "join": (name, chance.choice(["", "elm"])), "leave": (name,), "bar": (name, other),
                    "unbar": (name, other), "draw": (chance.randrange(1000),), "fall": (name,), "come": (name,),
                }[deed]
                if deed == "draw" and len(club) == 9:
                    continue
                told = moved(club, deed, *things)
                if isinstance(told, tuple):
                    self.assertEqual(club.circle(), circle)
                else:
                    ahead.append(circle)
                    self.kept(club, circle, deed, told)
            for circle in ahead[::-1]:
                self.assertIsNone(club.back())
                self.assertEqual(club.circle(), circle)
            self.assertEqual(moved(club, "back"), (NoBack,))

    def kept(self, club, circle, deed, told):
        """A club's years are drawings of the circle by then, its bars kept, and those of the years ahead, too."""
        if deed in ("draw", "fall", "come"):
            self.assertTrue(keeps(ahead_of(club.circle()), told))
            self.assertEqual(club.circle().past[-1], told.pairs)
            self.assertEqual(club.circle().past[:-1], circle.past if deed == "draw" else circle.past[:-1])
            self.assertEqual(club.circle().bars, circle.bars)
        else:
            self.assertEqual(club.circle().past, circle.past)


class TestWhatIsTold(Telling):
    def test_a_circle_that_was_told_stays(self):
        club = club_of(FOUR)
        drawing = club.draw(0)
        circle, last, text = club.circle(), club.last(), str(club)
        before = copy.deepcopy((circle, last, drawing))
        club.bar("anna", "bert")
        club.leave("anna")
        club.join("emil", "elm")
        club.draw(0)
        club.back()
        club.back()
        club.leave("dora")
        self.assertEqual((circle, last, drawing), before)
        self.assertEqual(str(circle), text)

    def test_what_is_done_to_what_was_told(self):
        club = club_of(FOUR)
        drawing = club.draw(0)
        circle, last, pairs = club.circle(), club.last(), drawing.pairs
        circle.members, circle.bars, circle.past, circle.gap = (), (("anna", "bert"),), (), 9
        drawing.pairs = last.pairs = ()
        self.stands(club, free(*FOUR, past=(pairs,)))

    def test_equal(self):
        self.assertTrue(Club() == Club())
        self.assertFalse(Club() != Club())
        self.assertFalse(Club() == Club(2))
        one, other = club_of(FOUR), club_of(FOUR[::-1])
        self.assertTrue(one == other)
        other.leave("anna")
        other.join("anna", "elm")
        self.assertFalse(one == other)
        other.back()
        other.join("anna")
        self.assertTrue(one == other)
        one.bar("anna", "bert")
        self.assertFalse(one == other)
        one.unbar("anna", "bert")
        self.assertTrue(one == other)
        one.draw(0)
        self.assertFalse(one == other)
        other.draw(1)
        self.assertFalse(one == other)
        other.back()
        other.draw(0)
        self.assertTrue(one == other)

    def test_equal_to_nothing_else(self):
        for club in (Club(), club_of(("anna",))):
            for thing in [*no_names(), club.circle(), str(club), (club,), Circle(()), Drawing(())]:
                self.assertIs(club == thing, False)
                self.assertIs(club != thing, True)
            self.assertFalse(club.circle() == club)


if __name__ == "__main__":
    unittest.main()
