"""Numbers read from their figures."""

from narrowadds.errors import BadText


def read_figures(word, greatest):
    """Return the number that the figures of word tell; raise BadText() if it is no row of figures.

    A row of more figures than greatest has is none here.
    """
    # Python refuses to read thousands of figures.
    if len(word) > len(str(greatest)) or not word.isascii() or not word.isdigit():
        raise BadText()
    return int(word)
