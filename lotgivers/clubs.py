"""A club: a circle that goes on from year to year, deed by deed, each of which can be taken back."""

from lotgivers.changing import with_one, without
from lotgivers.circles import Circle, circle_rows
from lotgivers.counting import drawn
from lotgivers.drawings import Drawing, keeps
from lotgivers.errors import NoBack, NoBar, NoMember, NoYear, Twice
from lotgivers.knowing import refuse_strangers
from lotgivers.mending import come_in, fallen_out
from lotgivers.shapes import is_pair


class Club:
    """Members, bars and years as of a circle, and what they were ahead of each deed."""

    def __init__(self, gap=1):
        self.members = ()
        self.bars = ()
        self.past = ()
        self.gap = gap
        self.ahead = []

    def __eq__(self, other):
        return (
            isinstance(other, Club)
            and self.members == other.members
            and self.bars == other.bars
            and self.past == other.past
            and self.gap == other.gap
        )

    def __len__(self):
        return len(self.past)

    def __str__(self):
        return "\n".join(circle_rows(self.members, self.bars, self.past, self.gap))

    def join(self, name, house=""):
        """One more member."""
        self.become(with_one(self.circle(), (name, house)).members, self.bars, self.past)

    def leave(self, name):
        """One member fewer, who stays in bars and past."""
        self.become(without(self.circle(), name).members, self.bars, self.past)

    def bar(self, giver, taker):
        """One bar more."""
        refuse_strangers(self.circle(), (giver, taker))
        if (giver, taker) in self.bars:
            raise Twice(giver)
        self.become(self.members, tuple(sorted([*self.bars, (giver, taker)])), self.past)

    def unbar(self, giver, taker):
        """One bar fewer."""
        if not is_pair((giver, taker)) or (giver, taker) not in self.bars:
            raise NoBar(giver, taker)
        self.become(self.members, tuple([pair for pair in self.bars if pair != (giver, taker)]), self.past)

    def draw(self, lot):
        """The drawing of one more year, drawn by this lot."""
        drawing = drawn(self.circle(), lot)
        self.become(self.members, self.bars, (*self.past, drawing.pairs))
        return drawing

    def fall(self, name):
        """The last year's drawing mended where this member falls out."""
        circle = self.circle()
        if not circle.has(name):
            raise NoMember(name)
        drawing, _, _ = fallen_out(self.last_kept(), self.last(), name)
        self.become(without(circle, name).members, self.bars, (*self.past[:-1], drawing.pairs))
        return drawing

    def come(self, name, house=""):
        """The last year's drawing mended where this member comes in."""
        circle = self.circle()
        if circle.has(name):
            raise Twice(name)
        drawing, _, _ = come_in(self.last_kept(), self.last(), (name, house))
        self.become(with_one(circle, (name, house)).members, self.bars, (*self.past[:-1], drawing.pairs))
        return drawing

    def back(self):
        """The last deed undone."""
        if not self.ahead:
            raise NoBack("there is no deed to undo")
        self.members, self.bars, self.past = self.ahead.pop()

    def circle(self):
        """The circle by now."""
        return Circle(self.members, self.bars, self.past, self.gap)

    def last(self):
        """The last year's drawing."""
        if not self.past:
            raise NoYear("no year is drawn")
        return Drawing(self.past[-1])

    def last_kept(self):
        """The circle with the years ahead of the last one alone, which that one's drawing keeps."""
        drawing = self.last()
        circle = Circle(self.members, self.bars, self.past[:-1], self.gap)
        if not keeps(circle, drawing):
            raise NoYear("the last year doesn't keep the circle any more")
        return circle

    def become(self, members, bars, past):
        """A deed: what the club is from now on, told behind all that may be refused."""
        self.ahead.append((self.members, self.bars, self.past))
        self.members = members
        self.bars = bars
        self.past = past
