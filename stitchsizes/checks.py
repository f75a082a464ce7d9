"""What kind of value something is, asked of any value."""

_LETTERS = "abcdefghijklmnopqrstuvwxyz"
_LONGEST_NAME = 8


def is_integer(value):
    """Whether a value is an integer; True and False are none."""
    return isinstance(value, int) and not isinstance(value, bool)


def is_count(value):
    """Whether a value is an integer that is at least 0."""
    return is_integer(value) and value >= 0


def is_count_to(value, most):
    """Whether a value is a count that is not above a limit."""
    return is_count(value) and value <= most


def is_name(value):
    """Whether a value is a string of one to eight letters from a to z."""
    if not isinstance(value, str) or not 1 <= len(value) <= _LONGEST_NAME:
        return False
    return all([letter in _LETTERS for letter in value])


def is_list_of(value, least, most):
    """Whether a value is a list, or a tuple, with a number of elements between two limits."""
    return isinstance(value, (list, tuple)) and least <= len(value) <= most
