"""Programs that add along roads, and change nothing else."""

from narrowadds.errors import Unfit
from narrowadds.integers import how_often, inverse, power_of
from narrowadds.machines import part_of, primes_of, step, whole_power
from narrowadds.programs import backward
from narrowadds.roads import least_factor, road


def adding(machine, j, i, c):
    """Return a program that adds c times what j holds to what i holds, and does nothing else.

    Raise Unfit() if there is none.
    """
    if c % least_factor(machine, j, i) != 0:
        raise Unfit()
    primes_by_road = {}
    for p in primes_of(machine):
        # Where c is nought for p there need not be a road.
        if c % whole_power(machine, p, i) != 0:
            primes_by_road.setdefault(road(machine, p, j, i), []).append(p)
    found = []
    for registers, primes in primes_by_road.items():
        found.extend(added_along(machine, primes, registers, c))
    return tuple(found)


def added_along(machine, primes, registers, c):
    """Return a program that adds c times along the road registers, by which each of primes climbs least.

    For all other primes it changes nothing.
    """
    return brought(deeds_along(machine, primes, registers, c))


def deeds_along(machine, primes, registers, c):
    """Return a deed for each wire of the road registers, by which each of primes climbs least.

    The product of their factors is c modulo what of the last size belongs to primes, and 0 modulo all else of it.
    """
    wires = list(zip(registers, registers[1:]))
    deeds = [(j, i, step(machine, j, i)) for j, i in wires[:-1]]
    given = 1
    for _, _, factor in deeds:
        given *= factor
    j, i = wires[-1]
    last = 0
    for p in primes:
        climbed = power_of(p, how_often(p, given))
        # What is left of c has the rise of the last wire in it, as c has the climb of the whole road.
        part = c // climbed * inverse(given // climbed, whole_power(machine, p, i))
        last += part * part_of(machine, p, i)
    return tuple(deeds + [(j, i, last % machine[0][i])])


def brought(deeds):
    """Return a program that gives along all of deeds at once, and leaves all but the last register as it was.

    Up and down again the last register gets what each register of the road held; up and down behind the first one,
    with the last deed backward, it gives back what all but the first held.
    """
    return deeds + backward(deeds[:-1]) + deeds[1:-1] + backward(deeds[1:])
