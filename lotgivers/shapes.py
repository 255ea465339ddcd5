"""The shapes that circles and drawings are made of, looked at in things of any kind."""

from lotgivers.names import is_name

FIGURES = "0123456789"


def is_whole(thing):
    """Whether this, of anything, is a whole number: an int that is no truth."""
    return isinstance(thing, int) and not isinstance(thing, bool)


def is_rising(things):
    """Whether each of these comparable things is less than the next one."""
    return all([low < high for low, high in zip(things, things[1:])])


def are_names(thing):
    """Whether this, of anything, is a rising tuple of names."""
    return isinstance(thing, tuple) and all([is_name(part) for part in thing]) and is_rising(thing)


def are_some_of(names, thing):
    """Whether this, of anything, is a rising tuple of some of these names, or of none."""
    return are_names(thing) and all([name in names for name in thing])


def is_pair(thing):
    """Whether this, of anything, is a tuple of two names."""
    return isinstance(thing, tuple) and len(thing) == 2 and is_name(thing[0]) and is_name(thing[1])


def are_pairs(thing):
    """Whether this, of anything, is a rising tuple of (giver, taker), names."""
    return isinstance(thing, tuple) and all([is_pair(part) for part in thing]) and is_rising(thing)


def is_figures(text):
    """Whether this text is of at most thirty figures, no 0 ahead but in 0 itself."""
    return 1 <= len(text) <= 30 and text.strip(FIGURES) == "" and (text == "0" or text[0] != "0")
