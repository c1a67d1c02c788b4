"""Which contents are led to which, by which programs, and papers that tell why some are not."""

from narrowadds.errors import Apart
from narrowadds.kinds import is_an_integer, is_pair
from narrowadds.machines import primes_of
from narrowadds.parts import Part, program_for
from narrowadds.programs import backward
from narrowadds.roads import least_factors
from narrowadds.settling import settle
from narrowadds.shares import common_with_others, shares_by


def are_joined(machine, one, other):
    """Return whether some program of machine leads one to other."""
    return len(apart_papers(machine, one, other)) == 0


def apart_papers(machine, one, other):
    """Return the list of all papers that tell why no program leads one to other, an empty one if one does."""
    factors = least_factors(machine)
    shared, wanted = shares_by(machine, factors, one), shares_by(machine, factors, other)
    if shared != wanted:
        return [("share", i) for i in range(len(one)) if shared[i] != wanted[i]]
    given = common_with_others(machine, factors, shared)
    return [("rest", i) for i in range(len(one)) if (one[i] - other[i]) % given[i] != 0]


def apart_holds(machine, one, other, value):
    """Return whether value, any value, is a paper that tells why no program leads one to other."""
    # True in the place of 1 makes no pair unlike.
    if not is_pair(value) or not is_an_integer(value[1]):
        return False
    return value in apart_papers(machine, one, other)


def way(machine, one, other):
    """Return a program that leads one to other; raise Apart(paper) if there is none."""
    papers = apart_papers(machine, one, other)
    if papers:
        raise Apart(papers[0])
    factors = least_factors(machine)
    shared = shares_by(machine, factors, one)
    given = common_with_others(machine, factors, shared)
    found = []
    for p in primes_of(machine):
        there, back = part_of_contents(machine, p, one), part_of_contents(machine, p, other)
        if there.rows != back.rows:
            settle(machine, there, factors, shared, given)
            settle(machine, back, factors, shared, given)
            found.extend(program_for(machine, there))
            found.extend(backward(program_for(machine, back)))
    return tuple(found)


def part_of_contents(machine, p, contents):
    """Return contents as the prime p sees them: rows of what each register holds."""
    return Part(machine, p, [[rest] for rest in contents])
