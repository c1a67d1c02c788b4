"""What machines of the same sizes can do of one another, and wires that they can spare."""

from narrowadds.errors import Unfit
from narrowadds.machines import step
from narrowadds.roads import least_factor, least_factors


def does_all(machine, other):
    """Return whether programs of machine do all tables that programs of other do.

    Raise Unfit() if the sizes of both are not the same.
    """
    if machine[0] != other[0]:
        raise Unfit()
    factors = least_factors(machine)
    return all([step(other, j, i) % factors[j, i] == 0 for j, i in other[1]])


def spare(machine):
    """Return the wires of machine each of which, by itself, can be taken away."""
    return tuple([wire for wire in machine[1] if is_spare(machine, wire)])


def lean(machine):
    """Return a machine that does the same with some of the wires of machine, none of which is spare."""
    left = machine
    # A wire that could not be spared ahead cannot be later: with fewer wires nothing climbs less.
    for wire in machine[1]:
        if is_spare(left, wire):
            left = without(left, wire)
    return left


def is_spare(machine, wire):
    """Return whether machine does without wire what it does with it."""
    j, i = wire
    return step(machine, j, i) % least_factor(without(machine, wire), j, i) == 0


def without(machine, wire):
    """Return machine without wire."""
    sizes, wires = machine
    return (sizes, tuple([kept for kept in wires if kept != wire]))
