"""What kind of value a value is, where any value may come."""


def is_an_integer(value):
    """Return whether value is an int that is not a bool."""
    return isinstance(value, int) and not isinstance(value, bool)


def is_below(value, bound):
    """Return whether value is an integer from 0 below bound."""
    return is_an_integer(value) and 0 <= value < bound


def is_pair(value):
    """Return whether value is a tuple of two items."""
    return isinstance(value, tuple) and len(value) == 2


def is_word(value, most):
    """Return whether value is a string of one small letter to most of them."""
    if not isinstance(value, str) or not 1 <= len(value) <= most:
        return False
    return value.isascii() and value.isalpha() and value.islower()
