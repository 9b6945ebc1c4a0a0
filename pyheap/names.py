"""Names of things."""

from pyheap.errors import NoName

LETTERS = "abcdefghijklmnopqrstuvwxyz"
GREATEST_LENGTH = 6


def is_name(thing):
    """Whether a thing is a name."""
    if not isinstance(thing, str) or not 1 <= len(thing) <= GREATEST_LENGTH:
        return False
    return all([letter in LETTERS for letter in thing])


def check_name(thing):
    """Refuse what is no name."""
    if not is_name(thing):
        raise NoName("a name is a text of 1 to 6 letters a to z")
