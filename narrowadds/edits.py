"""Edits of shelves, told as tuples of a word and its arguments.

Here a shelf is a dict: the program of each name. An edit makes a new one.
"""

from narrowadds.bounds import BATCH, MAX_NAME, MAX_NAMES
from narrowadds.errors import AddsError, BadBatch, BadProgram, NoName, Rejected, Taken, TooMany, Unfit
from narrowadds.kinds import is_word
from narrowadds.programs import program_error_from

# How many arguments each edit has.
ARGUMENTS = {"keep": 2, "drop": 1, "add": 2, "cut": 1, "batch": 1}


def is_edit(value):
    """Return whether value is a tuple of the word of an edit and of as many arguments as it has."""
    if not isinstance(value, tuple) or len(value) == 0 or not isinstance(value[0], str):
        return False
    return value[0] in ARGUMENTS and len(value) == 1 + ARGUMENTS[value[0]]


def edited(machine, programs, edit):
    """Return the shelf that edit makes of the shelf programs of machine, or raise its error."""
    word = edit[0]
    if word == "keep":
        return with_program(machine, programs, edit[1], edit[2])
    if word == "drop":
        return without_program(programs, edit[1])
    if word == "add":
        return with_deed(machine, programs, edit[1], edit[2])
    if word == "cut":
        return without_deed(programs, edit[1])
    return behind_batch(machine, programs, edit[1])


def is_name(value):
    """Return whether value is a name that a program can have."""
    return is_word(value, MAX_NAME) and value != "none"


def has_name(programs, value):
    """Return whether value, any value, is a name of the shelf programs."""
    return isinstance(value, str) and value in programs


def program_named(programs, name):
    """Return the program with this name; raise NoName(name) if there is none."""
    if not has_name(programs, name):
        raise NoName(name)
    return programs[name]


def check_program(machine, program, first):
    """Raise BadProgram if program is no program of machine; its deeds ahead of the place first are right ones."""
    error = program_error_from(machine, program, first)
    if error is not None:
        raise BadProgram(error)


def with_program(machine, programs, name, program):
    """Return programs with this one more."""
    if not is_name(name):
        raise Unfit()
    check_program(machine, program, 0)
    if name in programs:
        raise Taken(name)
    if len(programs) >= MAX_NAMES:
        raise TooMany(MAX_NAMES)
    return with_item(programs, name, program)


def without_program(programs, name):
    """Return programs without the one with this name."""
    program_named(programs, name)
    return {kept: program for kept, program in programs.items() if kept != name}


def with_deed(machine, programs, name, deed):
    """Return programs with one more deed behind the one with this name."""
    program = program_named(programs, name) + (deed,)
    check_program(machine, program, len(program) - 1)
    return with_item(programs, name, program)


def without_deed(programs, name):
    """Return programs without the last deed of the one with this name."""
    program = program_named(programs, name)
    if len(program) == 0:
        raise Unfit()
    return with_item(programs, name, program[:-1])


def with_item(programs, name, program):
    """Return programs with program under this name, the names in order."""
    found = {**programs, name: program}
    return {kept: found[kept] for kept in sorted(found)}


def behind_batch(machine, programs, edits):
    """Return programs behind all of edits, done one behind another."""
    if not is_batch(edits):
        raise BadBatch()
    found = programs
    for place, edit in enumerate(edits):
        try:
            found = edited(machine, found, edit)
        except AddsError:
            raise Rejected(place) from None
    return found


def is_batch(value):
    """Return whether value is a tuple of edits that a batch may have."""
    if not isinstance(value, tuple) or len(value) > BATCH:
        return False
    return all([is_edit(edit) and edit[0] != "batch" for edit in value])
