"""Machines to test with, and what the document says of them gone through one by one."""

from functools import lru_cache
from itertools import permutations, product
from math import prod
from random import Random

from narrowadds.bounds import MAX_SIZE
from narrowadds.machines import PRIMES, depth, primes_of, step

MACHINE = ((8, 4, 8), ((0, 1), (1, 0), (1, 2), (2, 0)))
NARROW = ((8, 2, 8), ((0, 1), (1, 2)))
MIXED = ((6, 4, 9), ((0, 1), (0, 2), (1, 0)))
WAIST = ((4, 2, 4), ((0, 1), (1, 0), (1, 2), (2, 1)))
RING = ((2, 2, 2), ((0, 1), (0, 2), (1, 0), (1, 2), (2, 0), (2, 1)))


def all_wires(many):
    """Return all wires between so many registers, in order."""
    return tuple((j, i) for j in range(many) for i in range(many) if j != i)


def around(many):
    """Return the wires that lead from each of so many registers to the next one, and from the last one to the first."""
    return tuple(sorted({(i, (i + 1) % many) for i in range(many) if many > 1}))


def some_wires(random, many):
    """Return some of all wires between so many registers, or none, or all."""
    chance = random.random()
    return tuple(wire for wire in all_wires(many) if random.random() < chance)


def all_contents(machine):
    """Return all contents of machine."""
    return list(product(*[range(size) for size in machine[0]]))


def contents_of(random, machine):
    return tuple(random.randrange(size) for size in machine[0])


def deed_of(random, machine, most=10 ** 60):
    """Return a deed of machine, which has a wire, with a factor up to most."""
    j, i = random.choice(machine[1])
    least = step(machine, j, i)
    return (j, i, least * random.randint(-(most // least), most // least))


def program_of(random, machine, many):
    """Return a program of machine of so many deeds, of none if it has no wire."""
    return tuple(deed_of(random, machine) for _ in range(many if machine[1] else 0))


def table_by_words(random, machine):
    """Return a table of machine."""
    sizes = machine[0]
    rows = []
    for i, size in enumerate(sizes):
        least = [1 if j == i else step(machine, j, i) for j in range(len(sizes))]
        rows.append(tuple(random.randrange(size // one) * one for one in least))
    return tuple(rows)


def all_tables(machine):
    """Return all tables of machine."""
    sizes = machine[0]
    rows = [list(product(*[range(0, size, 1 if j == i else step(machine, j, i)) for j in range(len(sizes))]))
            for i, size in enumerate(sizes)]
    return list(product(*rows))


def led_by(machine, table, contents):
    """Return where table leads contents, by the words of the document."""
    return tuple(sum(row[j] * contents[j] for j in range(len(row))) % size for row, size in zip(table, machine[0]))


def still_by_words(machine):
    many = len(machine[0])
    return tuple(tuple(int(i == j) for j in range(many)) for i in range(many))


def with_entry(table, i, j, entry):
    """Return table with another entry at (i, j)."""
    row = table[i][:j] + (entry,) + table[i][j + 1:]
    return table[:i] + (row,) + table[i + 1:]


def reached_from(machine, start, led):
    """Return the set of all that deeds of machine reach from start; led tells one deed's end."""
    reached, coming = {start}, [start]
    deeds = [(j, i, step(machine, j, i)) for j, i in machine[1]]
    while coming:
        one = coming.pop()
        for deed in deeds:
            end = led(machine, one, deed)
            if end not in reached:
                reached.add(end)
                coming.append(end)
    return reached


def contents_behind(machine, contents, deed):
    """Return the contents behind deed, by the words of the document."""
    j, i, c = deed
    held = (contents[i] + c * contents[j]) % machine[0][i]
    return contents[:i] + (held,) + contents[i + 1:]


def joined_by_words(machine, one, other):
    """Return whether some program of machine leads one to other, by all contents that deeds reach."""
    return other in reached_from(machine, one, contents_behind)


def table_behind(machine, table, deed):
    """Return what table leads to, and deed behind it, as a table."""
    j, i, c = deed
    row = tuple((kept + c * given) % machine[0][i] for kept, given in zip(table[i], table[j]))
    return table[:i] + (row,) + table[i + 1:]


def tables_done(machine):
    """Return the set of all tables that programs of machine do; deeds have orders, so going ahead alone is enough."""
    return reached_from(machine, still_by_words(machine), table_behind)


@lru_cache(maxsize=None)
def roads_by_words(machine, p, j, i):
    """Return all roads for p from j to i, each with its climb."""
    registers = [k for k in range(len(machine[0])) if depth(machine, p, k) > 0]
    found = []
    if j in registers and i in registers:
        between = [k for k in registers if k not in (j, i)]
        for many in range(len(between) + 1):
            for row in permutations(between, many):
                way = (j,) + row + (i,)
                if all(wire in machine[1] for wire in zip(way, way[1:])):
                    found.append((way, climb_by_words(machine, p, way)))
    return tuple(found)


def climb_by_words(machine, p, way):
    return sum(max(0, depth(machine, p, b) - depth(machine, p, a)) for a, b in zip(way, way[1:]))


@lru_cache(maxsize=None)
def least_factor_by_words(machine, j, i):
    """Return the least factor from j to i, by all roads."""
    found = 1
    for p in primes_of(machine):
        climbs = [climbed for _, climbed in roads_by_words(machine, p, j, i)]
        found *= p ** min([depth(machine, p, i)] + climbs)
    return found


def determinant_by_words(square):
    """Return the sum over all orders of the columns."""
    found = 0
    for order in permutations(range(len(square))):
        turns = sum(order[a] > order[b] for a in range(len(order)) for b in range(a + 1, len(order)))
        found += (-1) ** turns * prod(square[i][order[i]] for i in range(len(order)))
    return found


def small_machines(most=400, count=40, seed=1):
    """Return machines with at most so many contents, of one register to five, of one prime and of several."""
    random = Random(seed)
    found = [MACHINE, NARROW, MIXED, WAIST, RING, ((2,), ()), ((12,), ()), ((4, 4), ()), ((9, 3), ((0, 1),))]
    found = [machine for machine in found if prod(machine[0]) <= most]
    while len(found) < count:
        many = random.randint(1, 5)
        sizes = tuple(random.choice((2, 2, 3, 4, 4, 5, 6, 8, 9, 12)) for _ in range(many))
        if prod(sizes) <= most:
            found.append((sizes, some_wires(random, many)))
    return found


def great_size(random, primes):
    """Return a great size of some of primes."""
    size = 1
    while True:
        p = random.choice(primes)
        if size * p > MAX_SIZE:
            return size
        size *= p


def great_machines(seed=1):
    """Return machines of one register to six with great sizes, with no wire, a ring, some wires and all."""
    random = Random(seed)
    rows = [
        (10 ** 30,), (2 ** 99, 3 ** 62), (2 ** 99, 2 ** 50, 2 ** 98), (10 ** 30,) * 6, (2 ** 99,) * 6,
        (2 ** 99, 2 ** 98, 2 ** 97, 2 ** 3, 2 ** 2, 2), (97 ** 15, 97 ** 15, 97, 97 ** 2, 97 ** 14, 97 ** 7),
        tuple(great_size(random, PRIMES) for _ in range(6)), tuple(great_size(random, PRIMES[:3]) for _ in range(6)),
        tuple(great_size(random, PRIMES[:2]) for _ in range(4)), (prod(PRIMES[:20]),) * 6,
        tuple(prod(PRIMES[at:at + 16]) for at in range(6)),
    ]
    return [(sizes, wires) for sizes in rows
            for wires in ((), around(len(sizes)), some_wires(random, len(sizes)), all_wires(len(sizes)))]
