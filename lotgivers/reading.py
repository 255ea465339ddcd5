"""Circles and drawings read from the texts that they are written as."""

from lotgivers.circles import Circle
from lotgivers.drawings import Drawing
from lotgivers.errors import NoText
from lotgivers.names import is_name
from lotgivers.shapes import is_figures


def read_circle(text):
    """The circle of which this, of anything, is the text."""
    rows = rows_in(text)
    gap = gap_in(rows[0])
    members, bars, past = [], [], []
    for place, row in enumerate(rows[1:], start=1):
        # No row needs one behind it: where each row fits behind those ahead, all are the text of a circle.
        if not put_row(row, members, bars, past):
            raise NoText(place)
    return Circle(tuple(members), tuple(bars), tuple([tuple(year) for year in past]), gap)


def rows_in(text):
    """The rows of this text; what is none goes wrong in its first row."""
    if not isinstance(text, str):
        raise NoText(0)
    return text.split("\n")


def gap_in(row):
    """The gap that this first row of a circle tells."""
    words = row.split(" ")
    if len(words) != 2 or words[0] != "circle" or not is_figures(words[1]):
        raise NoText(0)
    return int(words[1])


def put_row(row, members, bars, past):
    """Whether this row fits behind those ahead, to whose members, bars or years it is put then."""
    words = row.split(" ")
    if row == "year":
        past.append([])
        return True
    if words[0] == "member":
        return bars == [] and past == [] and put_member(words[1:], members)
    if words[0] == "bar":
        return past == [] and len(words) == 3 and put_pair(words[1], words[2], bars)
    if past == [] or len(words) != 5 or words[:2] != ["", ""] or words[3] != ">":
        return False
    return put_pair(words[2], words[4], past[-1])


def put_member(words, members):
    """Whether these words are a name, or a name and a house, of a member behind the last one."""
    if not 1 <= len(words) <= 2 or not all([is_name(word) for word in words]):
        return False
    if members and members[-1][0] >= words[0]:
        return False
    members.append((words[0], words[1] if len(words) == 2 else ""))
    return True


def put_pair(giver, taker, pairs):
    """Whether these words are names, and their pair is behind the last one of these pairs."""
    if not is_name(giver) or not is_name(taker) or (pairs and pairs[-1] >= (giver, taker)):
        return False
    pairs.append((giver, taker))
    return True


def read_drawing(text):
    """The Drawing of which this, of anything, is the text."""
    rows = rows_in(text)
    if rows == [""]:
        return Drawing(())
    taker_of = {}
    # Who is given to and hasn't given yet, and has to give in one of the rows behind.
    to_give = {}
    giver_of = {}
    for place, row in enumerate(rows):
        if not put_gift(row, taker_of, giver_of, to_give):
            raise NoText(place)
    if to_give:
        raise NoText(len(rows))
    return Drawing(tuple(taker_of.items()))


def put_gift(row, taker_of, giver_of, to_give):
    """Whether this row fits behind those ahead, to whose pairs it is put then."""
    words = row.split(" ")
    if len(words) != 3 or words[1] != ">" or not is_name(words[0]) or not is_name(words[2]):
        return False
    giver, _, taker = words
    if giver <= max(taker_of, default="") or taker in giver_of:
        return False
    taker_of[giver] = taker
    giver_of[taker] = giver
    to_give.pop(giver, None)
    if taker not in taker_of:
        to_give[taker] = True
    # Givers rise: who has to give, but is less than this one, comes too late.
    return min(to_give, default=giver) >= giver
