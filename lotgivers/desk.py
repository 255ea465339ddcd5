"""A desk at which a club is spoken to in rows of words."""

from lotgivers.clubs import Club
from lotgivers.counting import many
from lotgivers.errors import NoRow
from lotgivers.names import is_name
from lotgivers.rings import ring
from lotgivers.shapes import is_figures
from lotgivers.shares import share
from lotgivers.telling import tells
from lotgivers.years import years


def do_join(club, words):
    """One more member; the house may be left out, here and in do_come."""
    club.join(words[0], "".join(words[1:]))
    return "done"


def do_leave(club, words):
    """One member fewer."""
    club.leave(words[0])
    return "done"


def do_bar(club, words):
    """One bar more."""
    club.bar(words[0], words[1])
    return "done"


def do_unbar(club, words):
    """One bar fewer."""
    club.unbar(words[0], words[1])
    return "done"


def do_back(club, words):
    """The last deed undone."""
    club.back()
    return "done"


def do_draw(club, words):
    """The drawing of one more year."""
    return gifts(club.draw(int(words[0])))


def do_fall(club, words):
    """The last year's drawing mended where one falls out."""
    return gifts(club.fall(words[0]))


def do_come(club, words):
    """The last year's drawing mended where one comes in."""
    return gifts(club.come(words[0], "".join(words[1:])))


def ask_many(club, words):
    """How many drawings there are."""
    return str(many(club.circle()))


def ask_why(club, words):
    """Why this one may not take that one."""
    reason = club.circle().reason(words[0], words[1])
    return "-" if reason is None else reason


def ask_share(club, words):
    """The share of the drawings that have this pair."""
    return str(share(club.circle(), words[0], words[1]))


def ask_tells(club, words):
    """Whether this pair is sure, never or open, nothing being known."""
    return tells(club.circle(), None, words[0], words[1])[0]


def ask_years(club, words):
    """For how many years no pair need come twice."""
    return str(len(years(club.circle())[0]))


def ask_ring(club, words):
    """A ring of all."""
    word, names = ring(club.circle())
    return " ".join(names) if word == "ring" else "-"


def ask_circle(club, words):
    """The club's text."""
    return str(club)


DEEDS = {
    "join": do_join, "leave": do_leave, "bar": do_bar, "unbar": do_unbar, "back": do_back,
    "draw": do_draw, "fall": do_fall, "come": do_come,
    "many": ask_many, "why": ask_why, "share": ask_share, "tells": ask_tells,
    "years": ask_years, "ring": ask_ring, "circle": ask_circle,
}
# What may stand behind each word: N is a name (or a house), L is a lot.
FORMS = {
    "join": ("N", "NN"), "leave": ("N",), "bar": ("NN",), "unbar": ("NN",), "back": ("",),
    "draw": ("L",), "fall": ("N",), "come": ("N", "NN"),
    "many": ("",), "why": ("NN",), "share": ("NN",), "tells": ("NN",),
    "years": ("",), "ring": ("",), "circle": ("",),
}


class Desk:
    """A club of its own, to which each row that is said does or asks something."""

    def __init__(self):
        self.club = Club()

    def say(self, row):
        """What is told to this row, of anything."""
        first, *words = row.split(" ") if isinstance(row, str) else [""]
        if first not in DEEDS or not any([are_of_form(form, words) for form in FORMS[first]]):
            raise NoRow("there is no such row")
        deed = DEEDS[first]
        return deed(self.club, words)


def are_of_form(form, words):
    """Whether these words are as many, and such, as the form's signs say."""
    if len(words) != len(form):
        return False
    return all([is_figures(word) if sign == "L" else is_name(word) for sign, word in zip(form, words)])


def gifts(drawing):
    """The drawing in one row."""
    return " ".join([f"{giver}>{taker}" for giver, taker in drawing.pairs]) if len(drawing) > 0 else "-"
