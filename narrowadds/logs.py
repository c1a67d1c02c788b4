"""Edits written as texts, read from them, and done on a new bench."""

from narrowadds.benches import Bench
from narrowadds.bounds import MAX_FACTOR, MAX_NEST
from narrowadds.edits import is_edit
from narrowadds.errors import AddsError, BadLog, BadText
from narrowadds.figures import read_integer
from narrowadds.kinds import is_word

MAX_WORD = 10


def log_text(edits):
    """Return the texts of edits, each with a line feed behind it."""
    return "".join([value_text(edit) + "\n" for edit in edits])


def value_text(value):
    """Return the text of an integer, a word, or a tuple of such."""
    if isinstance(value, tuple):
        return "(" + ",".join([value_text(item) for item in value]) + ")"
    return str(value)


def read_log(value):
    """Return the tuple of the edits of which the lines of value are the texts; raise BadLog(place) if one is none."""
    if not isinstance(value, str):
        raise BadLog(0)
    lines = value.split("\n")[:-1]
    return tuple([read_line(line, place) for place, line in enumerate(lines)])


def read_line(line, place):
    """Return the edit of which line is the text; raise BadLog(place) if there is none."""
    try:
        found, behind = read_value(line, 0, 0)
    except BadText:
        raise BadLog(place) from None
    if behind != len(line) or not is_edit(found):
        raise BadLog(place)
    return found


def read_value(line, at, nest):
    """Return the value whose text begins at this place of line, and the place behind it; nest brackets are open."""
    if line[at:at + 1] == "(":
        return read_items(line, at + 1, nest + 1)
    behind = at
    while behind < len(line) and line[behind] not in "(,)":
        behind += 1
    return read_plain(line[at:behind]), behind


def read_items(line, at, nest):
    """Return the tuple whose first item begins at this place of line, and the place behind its bracket."""
    if nest > MAX_NEST:
        raise BadText()
    found = []
    while line[at:at + 1] != ")":
        if found:
            at = behind_comma(line, at)
        item, at = read_value(line, at, nest)
        found.append(item)
    return tuple(found), at + 1


def behind_comma(line, at):
    """Return the place behind the comma at this place of line; raise BadText() if there is none."""
    if line[at:at + 1] != ",":
        raise BadText()
    return at + 1


def read_plain(word):
    """Return the word, or the integer of which word is the text; raise BadText() if there is none."""
    if is_word(word, MAX_WORD):
        return word
    found = read_integer(word, MAX_FACTOR)
    if abs(found) > MAX_FACTOR:
        raise BadText()
    return found


def bench_behind(machine, edits):
    """Return a new bench of machine by which all of edits were done; raise BadLog(place) at the first that raises."""
    found = Bench(machine)
    for place, edit in enumerate(edits):
        try:
            found.take(edit)
        except AddsError:
            raise BadLog(place) from None
    return found
