"""Shares and gives of contents, and the classes of contents that are led to one another."""

from math import gcd

from narrowadds.integers import how_often, power_of
from narrowadds.machines import depth, part_of, primes_of
from narrowadds.roads import least_factors
from narrowadds.rooms import rooms


def shares(machine, contents):
    """Return the shares of all registers of machine by contents."""
    return shares_by(machine, least_factors(machine), contents)


def gives(machine, contents):
    """Return the gives of all registers of machine by contents."""
    factors = least_factors(machine)
    return common_with_others(machine, factors, shares_by(machine, factors, contents))


def shares_by(machine, factors, contents):
    """Return the shares of all registers; factors tells the least factors of machine."""
    others = common_with_others(machine, factors, contents)
    return tuple([gcd(common, rest) for common, rest in zip(others, contents)])


def common_with_others(machine, factors, held):
    """Return for each register what divides its size, and all that the others can give to it if they hold this."""
    found = list(machine[0])
    for j, i in factors:
        found[i] = gcd(found[i], factors[j, i] * held[j])
    return tuple(found)


def class_size(machine, contents):
    """Return to how many contents programs of machine can lead contents."""
    factors = least_factors(machine)
    shared = shares_by(machine, factors, contents)
    given = common_with_others(machine, factors, shared)
    found = 1
    for p in primes_of(machine):
        for room in rooms(machine, p, 0):
            if is_fed(p, room, factors, shared):
                found *= power_of(p, len(room) * free_depth(machine, p, room[0], shared))
            elif len(room) > 1:
                found *= own_size(p, len(room), free_depth(machine, p, room[0], shared))
            else:
                found *= power_of(p, free_depth(machine, p, room[0], given))
    return found


def free_depth(machine, p, i, divisors):
    """Return how much more often p divides the size of the register i than what divisors has for it."""
    return depth(machine, p, i) - how_often(p, divisors[i])


def own_size(p, many, free):
    """Return to how many contents a room of so many registers leads its own, which have so much free depth."""
    # Noughts are led to themselves alone; all others to all rows that p divides just as often.
    if free == 0:
        return 1
    return power_of(p, many * free) - power_of(p, many * (free - 1))


def is_fed(p, room, factors, shared):
    """Return whether some register beyond room gives to it what p divides no more often than the shares in room."""
    i = room[0]
    own = how_often(p, shared[i])
    return any([how_often(p, factors[j, i] * shared[j]) <= own for j in range(len(shared)) if j not in room])


def rested(machine, contents):
    """Return contents to which contents can be led, the same for all that are led to one another."""
    factors = least_factors(machine)
    shared = shares_by(machine, factors, contents)
    given = common_with_others(machine, factors, shared)
    found = [rest % give for rest, give in zip(contents, given)]
    for p in primes_of(machine):
        for room in rooms(machine, p, 0):
            # What such a room holds may have lost its share by now, and no other register brings it again.
            if len(room) > 1 and not is_fed(p, room, factors, shared):
                i = room[0]
                share = power_of(p, how_often(p, shared[i]))
                found[i] = with_part(machine, p, i, found[i], share)
    return tuple(found)


def with_part(machine, p, i, rest, part):
    """Return what is rest in the register i but for the prime p, and part for p."""
    return (rest + (part - rest) * part_of(machine, p, i)) % machine[0][i]
