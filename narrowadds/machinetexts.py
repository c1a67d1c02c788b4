"""Machines written as texts, and read from them."""

from narrowadds.bounds import MAX_SIZE
from narrowadds.errors import BadText
from narrowadds.figures import read_figures
from narrowadds.machines import machine_error


def machine_text(machine):
    """Return the text of machine."""
    sizes, wires = machine
    told = " ".join([str(size) for size in sizes])
    return told + ":" + "".join([f" {j}>{i}" for j, i in wires])


def read_machine(value):
    """Return the machine of which value is the text; raise BadText() if there is none."""
    if not isinstance(value, str):
        raise BadText()
    told, _, behind = value.partition(":")
    machine = (read_sizes(told), read_wires(behind))
    # The parts are read loosely: a sign, a nought or a blank too many shows in the text that is due.
    if machine_error(machine) is not None or machine_text(machine) != value:
        raise BadText()
    return machine


def read_sizes(text):
    """Return the numbers between the blanks of text."""
    return tuple([read_figures(word, MAX_SIZE) for word in text.split(" ")])


def read_wires(text):
    """Return the pairs of numbers behind the blanks of text."""
    return tuple([read_wire(word) for word in text.split(" ")[1:]])


def read_wire(word):
    """Return the two numbers around the first ">" of word."""
    giver, _, taker = word.partition(">")
    return (read_figures(giver, MAX_SIZE), read_figures(taker, MAX_SIZE))
