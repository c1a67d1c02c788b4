"""Roads along wires, what they climb, and the factors that are lost on them."""

from narrowadds.integers import power_of
from narrowadds.machines import depth, primes_of


def rise(machine, p, j, i):
    """Return how much more often the prime p divides the size of i than that of j, 0 if it does not."""
    return max(0, depth(machine, p, i) - depth(machine, p, j))


def climb(machine, p, j, i):
    """Return the least climb of a road for p from j to i, None if there is no road."""
    found = least_roads(machine, p)
    if (j, i) not in found:
        return None
    return found[j, i][0]


def road(machine, p, j, i):
    """Return a road for p from j to i with the least climb, None if there is no road."""
    found = least_roads(machine, p)
    if (j, i) not in found:
        return None
    return found[j, i][1]


def least_roads(machine, p):
    """Return a dict: for each pair (j, i) with a road for p the least climb, and a road that has it.

    Where a wire leads from j to i the road is this wire: no road climbs less than it rises.
    """
    registers = [i for i in range(len(machine[0])) if depth(machine, p, i) > 0]
    found = {}
    for j, i in machine[1]:
        if j in registers and i in registers:
            found[j, i] = (rise(machine, p, j, i), (j, i))
    for k in registers:
        givers = [j for j in registers if (j, k) in found]
        takers = [i for i in registers if (k, i) in found]
        for j in givers:
            for i in takers:
                if j != i:
                    try_way_round(found, j, k, i)
    return found


def try_way_round(found, j, k, i):
    """Take the road from j to i through k into found, if it climbs less than what stands there."""
    climbed = found[j, k][0] + found[k, i][0]
    # No register comes twice on it: without the round between, the road would have been found ahead.
    if (j, i) not in found or climbed < found[j, i][0]:
        found[j, i] = (climbed, found[j, k][1] + found[k, i][1][1:])


def least_factor(machine, j, i):
    """Return the least factor above 0 by which some program can add what j holds to what i holds."""
    roads = {p: least_roads(machine, p) for p in primes_of(machine)}
    return factor_along(machine, roads, j, i)


def least_factors(machine):
    """Return a dict: the least factor for each pair (j, i) of unlike registers."""
    registers = range(len(machine[0]))
    roads = {p: least_roads(machine, p) for p in primes_of(machine)}
    return {(j, i): factor_along(machine, roads, j, i) for j in registers for i in registers if j != i}


def factor_along(machine, roads, j, i):
    """Return the least factor from j to i; roads tells the least roads for each prime of machine."""
    found = 1
    for p in roads:
        lost = depth(machine, p, i)
        if (j, i) in roads[p]:
            lost = min(lost, roads[p][j, i][0])
        found *= power_of(p, lost)
    return found
