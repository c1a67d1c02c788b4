"""What stands in registers as one prime sees it, and additions by which that is changed."""

from narrowadds.adding import added_along
from narrowadds.machines import depth, whole_power
from narrowadds.roads import least_roads


class Part:
    """Rows of integers, one for each register that the prime p goes into, modulo what of its size belongs to p.

    To rows multiples of other rows can be added, as programs add multiples of what registers hold. All such additions
    are kept, in order.
    """

    def __init__(self, machine, p, rows):
        self.p = p
        self.roads = least_roads(machine, p)
        self.registers = [i for i in range(len(machine[0])) if depth(machine, p, i) > 0]
        self.powers = {i: whole_power(machine, p, i) for i in self.registers}
        self.rows = {i: [entry % self.powers[i] for entry in rows[i]] for i in self.registers}
        self.additions = []

    def climb_of(self, j, i):
        """Return the climb from j to i, between which there is a road."""
        return self.roads[j, i][0]

    def give(self, j, i, c):
        """Add c times the row of j to the row of i; c is a multiple of p to the climb from j to i."""
        power = self.powers[i]
        times = c % power
        if times != 0:
            self.rows[i] = [(kept + times * given) % power for kept, given in zip(self.rows[i], self.rows[j])]
            self.additions.append((j, i, times))


def program_for(machine, part):
    """Return a program that makes the additions of part, and changes nothing for other primes."""
    return tuple([
        deed for j, i, c in part.additions
        for deed in added_along(machine, [part.p], part.roads[j, i][1], c)
    ])
