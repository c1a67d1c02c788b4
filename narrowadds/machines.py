"""Machines of registers of unlike sizes, with wires between them."""

from math import gcd

from narrowadds.bounds import MAX_REGISTERS, MAX_SIZE
from narrowadds.integers import how_often, inverse, power_of
from narrowadds.kinds import is_an_integer, is_below, is_pair

# Written out up to MAX_PRIME: no greater prime divides a size, so none has to be looked for.
PRIMES = (2, 3, 5, 7, 11, 13, 17, 19, 23, 29, 31, 37, 41, 43, 47, 53, 59, 61, 67, 71, 73, 79, 83, 89, 97)


def machine_error(value):
    """Return what is wrong with value as a machine, None if it is one."""
    if not has_machine_form(value):
        return "form"
    sizes, wires = value
    for i, size in enumerate(sizes):
        if not is_size(size):
            return ("size", i)
    for place, wire in enumerate(wires):
        if not is_wire(wire, len(sizes)):
            return ("wire", place)
    for place in range(1, len(wires)):
        if wires[place] <= wires[place - 1]:
            return ("order", place)
    return None


def has_machine_form(value):
    """Return whether value is a pair of a tuple of as many items as registers may be, and of a tuple."""
    if not is_pair(value):
        return False
    sizes, wires = value
    if not isinstance(sizes, tuple) or not isinstance(wires, tuple):
        return False
    return 1 <= len(sizes) <= MAX_REGISTERS


def is_size(value):
    """Return whether value is a size of a register."""
    if not is_an_integer(value) or value < 2 or value > MAX_SIZE:
        return False
    rest = value
    for p in PRIMES:
        while rest % p == 0:
            rest //= p
    return rest == 1


def is_wire(value, many):
    """Return whether value is a pair of unlike registers of a machine that has so many of them."""
    if not is_pair(value):
        return False
    j, i = value
    return is_below(j, many) and is_below(i, many) and j != i


def primes_of(machine):
    """Return the ascending tuple of the primes that divide some size of machine."""
    sizes = machine[0]
    return tuple([p for p in PRIMES if any([size % p == 0 for size in sizes])])


def depth(machine, p, i):
    """Return how often the prime p divides the size of the register i."""
    return how_often(p, machine[0][i])


def whole_power(machine, p, i):
    """Return p as often as it divides the size of the register i: what of this size belongs to p."""
    return power_of(p, depth(machine, p, i))


def part_of(machine, p, i):
    """Return the rest of the register i that is 1 modulo what of its size belongs to p, and 0 modulo all else."""
    size = machine[0][i]
    power = whole_power(machine, p, i)
    others = size // power
    return others * inverse(others, power) % size


def step(machine, j, i):
    """Return the least factor above 0 by which the register j can give to i, were there a wire."""
    sizes = machine[0]
    return sizes[i] // gcd(sizes[i], sizes[j])


def contents_error(machine, value):
    """Return what is wrong with value as contents of machine, None if it is such."""
    sizes = machine[0]
    if not isinstance(value, tuple) or len(value) != len(sizes):
        return "form"
    for i, size in enumerate(sizes):
        if not is_below(value[i], size):
            return ("rest", i)
    return None
