"""Names: of members, and of houses."""

LETTERS = "abcdefghijklmnopqrstuvwxyz"


def is_name(thing):
    """Whether this, of anything, is a text of 1 to 12 small letters."""
    if not isinstance(thing, str):
        return False
    return 1 <= len(thing) <= 12 and all([sign in LETTERS for sign in thing])
