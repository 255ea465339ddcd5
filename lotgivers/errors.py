"""The refusals: LotError, and straight under it a class for each kind of them.

What a refusal bears is kept as a copy, and Python's own message is a fixed
text, so that nothing done behind it to what was handed in changes the refusal.
"""

from lotgivers.copies import copied


class LotError(ValueError):
    """What was asked is refused."""


class NoMember(LotError):
    """Nobody of this name is among those who are asked about."""

    def __init__(self, name):
        super().__init__("no member has this name")
        self.name = copied(name)


class NoDrawing(LotError):
    """This thing is no drawing, or not one such as is asked for."""

    def __init__(self, thing):
        super().__init__("this is no drawing that fits here")
        self.thing = copied(thing)


class TooFew(LotError):
    """There is no drawing: whom the givers of this lot may take are fewer than they."""

    def __init__(self, lot):
        super().__init__("these givers may take fewer than they are")
        self.lot = copied(lot)


class NoNumber(LotError):
    """No drawing has this number."""

    def __init__(self, number):
        super().__init__("no drawing has this number")
        self.number = copied(number)


class TooMany(LotError):
    """The circle has this many members, more than can be asked about."""

    def __init__(self, many):
        super().__init__("the circle has too many members for this")
        self.many = copied(many)


class Twice(LotError):
    """What this name stands for is there already."""

    def __init__(self, name):
        super().__init__("this is there already")
        self.name = copied(name)


class NoBar(LotError):
    """This giver isn't barred from this taker."""

    def __init__(self, giver, taker):
        super().__init__("there is no such bar")
        self.giver = copied(giver)
        self.taker = copied(taker)


class NoText(LotError):
    """The text goes wrong in this row, counted from 0."""

    def __init__(self, row):
        super().__init__("the text goes wrong in a row")
        self.row = copied(row)


class NoYear(LotError):
    """No year is drawn that this could be done to; made with a text."""


class NoBack(LotError):
    """There is no deed to undo; made with a text."""


class NoRow(LotError):
    """What is said at the desk is none of its rows; made with a text."""
