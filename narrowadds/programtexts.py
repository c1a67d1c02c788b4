"""Programs written as texts, and read from them."""

from narrowadds.bounds import MAX_FACTOR
from narrowadds.errors import BadText
from narrowadds.figures import read_figures
from narrowadds.programs import program_error


def program_text(program):
    """Return the text of program."""
    return " ".join([f"{j}>{i}*{c}" for j, i, c in program])


def read_program(machine, value):
    """Return the program of machine of which value is the text; raise BadText() if there is none."""
    if not isinstance(value, str):
        raise BadText()
    words = value.split(" ") if value != "" else []
    program = tuple([read_deed(word) for word in words])
    # The parts are read loosely: a nought too many, or one below 0, shows in the text that is due.
    if program_error(machine, program) is not None or program_text(program) != value:
        raise BadText()
    return program


def read_deed(word):
    """Return the three numbers around the first ">" of word and the first "*" behind it."""
    giver, _, rest = word.partition(">")
    taker, _, factor = rest.partition("*")
    return (read_figures(giver, MAX_FACTOR), read_figures(taker, MAX_FACTOR), read_factor(factor))


def read_factor(word):
    """Return the number that word tells, with a sign ahead of it or none."""
    if word.startswith("-"):
        return -read_figures(word[1:], MAX_FACTOR)
    return read_figures(word, MAX_FACTOR)
