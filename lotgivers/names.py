"""Names: of members, and of houses."""

LETTERS = "abcdefghijklmnopqrstuvwxyz"


def is_name(thing):
    """Whether this, of anything, is a text of 1 to 12 small letters."""
    # A text of small letters alone is one of which nothing is left where they are stripped off.
    return isinstance(thing, str) and 1 <= len(thing) <= 12 and thing.strip(LETTERS) == ""
