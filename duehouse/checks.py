"""Checks of numbers and names, for all that is passed to the program."""

from duehouse.errors import BadName, BadNumber, Taken

LETTERS = "abcdefghijklmnopqrstuvwxyz"
NAME_LETTERS = 8
MOST_NAMES = 3


def is_number(number, low, high):
    """Whether this is an integer from low to high; a boolean is none."""
    if not isinstance(number, int) or isinstance(number, bool):
        return False
    return low <= number <= high


def is_name(name):
    """Whether this is a string of 1 to 8 letters."""
    if not isinstance(name, str) or not is_number(len(name), 1, NAME_LETTERS):
        return False
    return all([letter in LETTERS for letter in name])


def check_number(word, number, low, high):
    """Refuse, by this word, what is no number from low to high."""
    if not is_number(number, low, high):
        raise BadNumber(word)


def check_new_name(name, names):
    """Refuse what is no name, or one of the names that are there already."""
    if not is_name(name):
        raise BadName(name)
    if name in names:
        raise Taken(name)


def check_names(word, names):
    """Refuse, by this word, what is not 1 to 3 different names."""
    check_number(word, len(names), 1, MOST_NAMES)
    for at, name in enumerate(names):
        check_new_name(name, names[:at])
