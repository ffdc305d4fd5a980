"""The forms of integers and names that several files ask for."""

LETTERS = "abcdefghijklmnopqrstuvwxyz"
LONGEST_NAME = 8


def is_whole(value):
    """Whether any value is an integer; a bool is none."""
    return isinstance(value, int) and not isinstance(value, bool)


def is_between(value, low, high):
    """Whether any value is an integer from low to high."""
    return is_whole(value) and low <= value <= high


def is_name(value):
    """Whether any value is a name."""
    if not isinstance(value, str) or not 1 <= len(value) <= LONGEST_NAME:
        return False
    return all([sign in LETTERS for sign in value])


def is_tuple_of(value, many):
    """Whether any value is a tuple with so many members."""
    return isinstance(value, tuple) and len(value) == many


def is_same(value, other):
    """Whether any value is just like another one built from tuples, integers, bools, strings and None."""
    if isinstance(other, tuple):
        return is_tuple_of(value, len(other)) and all([is_same(value[k], part) for k, part in enumerate(other)])
    return isinstance(value, bool) == isinstance(other, bool) and value == other
