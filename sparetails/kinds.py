"""Whether a value is of a plain kind: an integer, a name, a number, a growing."""

LETTERS = "abcdefghijklmnopqrstuvwxyz"
LONGEST_NAME = 8
GROWINGS = ("exact", "spare")


def is_integer(thing):
    """Whether thing is an int; True and False are none here."""
    return isinstance(thing, int) and not isinstance(thing, bool)


def is_name(thing):
    """Whether thing is a string of one to eight letters a to z."""
    if not isinstance(thing, str) or not 1 <= len(thing) <= LONGEST_NAME:
        return False
    return all([letter in LETTERS for letter in thing])


def is_number(many, thing):
    """Whether thing is an integer from 0 to many - 1."""
    return is_integer(thing) and 0 <= thing < many


def is_growing(thing):
    """Whether thing is one of the two ways in which rooms are chosen."""
    return isinstance(thing, str) and thing in GROWINGS


def is_listed(thing):
    """Whether thing is a list or a tuple."""
    return isinstance(thing, (list, tuple))


def is_address(thing):
    """Whether thing is a tuple of integers, as an address is, wherever it leads."""
    return isinstance(thing, tuple) and all([is_integer(at) for at in thing])
