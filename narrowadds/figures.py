"""Numbers read from their figures, and integers from their decimals."""

from narrowadds.errors import BadText


def read_figures(word, greatest):
    """Return the number that the figures of word tell; raise BadText() if it is no row of figures.

    A row of more figures than greatest has is none here.
    """
    # Python refuses to read thousands of figures.
    if len(word) > len(str(greatest)) or not word.isascii() or not word.isdigit():
        raise BadText()
    return int(word)


def read_integer(word, greatest):
    """Return the integer of which word is the decimal, without noughts ahead; raise BadText() if it is of none.

    A decimal of more figures than greatest has is none here.
    """
    if word.startswith("-"):
        found = -read_figures(word[1:], greatest)
    else:
        found = read_figures(word, greatest)
    if str(found) != word:
        raise BadText()
    return found
