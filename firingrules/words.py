"""What counts as an integer and as a name."""

from firingrules.errors import Twice

LETTERS = "abcdefghijklmnopqrstuvwxyz"


def is_integer(thing):
    """Return whether thing is an integer; True and False are not."""
    return isinstance(thing, int) and not isinstance(thing, bool)


def is_name(thing):
    """Return whether thing is a string of one to eight letters from a to z."""
    if not isinstance(thing, str) or not 1 <= len(thing) <= 8:
        return False
    return all([letter in LETTERS for letter in thing])


def check_different(names):
    """Raise Twice for the first name that stands earlier in a list, too."""
    for at, name in enumerate(names):
        if name in names[:at]:
            raise Twice(name)
