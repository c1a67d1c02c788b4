"""Deeds, that add along wires, and programs of them."""

from narrowadds.bounds import MAX_DEEDS, MAX_FACTOR
from narrowadds.kinds import is_an_integer
from narrowadds.machines import step


def deed_error(machine, value):
    """Return what is wrong with value as a deed of machine, None if it is one."""
    return deed_fault(steps_of(machine), value)


def program_error(machine, value):
    """Return what is wrong with value as a program of machine, None if it is one."""
    return program_error_from(machine, value, 0)


def program_error_from(machine, value, first):
    """Return what is wrong with value as a program of machine; the deeds ahead of the place first are right ones."""
    if not isinstance(value, tuple) or len(value) > MAX_DEEDS:
        return "form"
    steps = steps_of(machine)
    for place in range(first, len(value)):
        if deed_fault(steps, value[place]) is not None:
            return ("deed", place)
    return None


def steps_of(machine):
    """Return a dict that tells the step of each wire of machine."""
    return {(j, i): step(machine, j, i) for j, i in machine[1]}


def deed_fault(steps, value):
    """Return what is wrong with value as a deed of the machine whose wires have these steps."""
    if not isinstance(value, tuple) or len(value) != 3 or not all([is_an_integer(item) for item in value]):
        return "form"
    j, i, c = value
    if (j, i) not in steps:
        return "wire"
    if abs(c) > MAX_FACTOR or c % steps[j, i] != 0:
        return "factor"
    return None


def done(machine, contents, deed):
    """Return the contents of machine behind deed."""
    return run(machine, (deed,), contents)


def run(machine, program, contents):
    """Return the contents of machine behind all deeds of program."""
    sizes = machine[0]
    held = list(contents)
    for j, i, c in program:
        held[i] = (held[i] + c * held[j]) % sizes[i]
    return tuple(held)


def backward(program):
    """Return the program that leads back what program leads on."""
    return tuple([(j, i, -c) for j, i, c in program[::-1]])
