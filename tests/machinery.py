"""Machines to test with, and what the document says of them gone through one by one."""

from functools import lru_cache
from itertools import permutations, product
from math import gcd, prod
from random import Random

from narrowadds.bounds import MAX_SIZE
from narrowadds.machines import PRIMES, depth, primes_of, step

MACHINE = ((8, 4, 8), ((0, 1), (1, 0), (1, 2), (2, 0)))
NARROW = ((8, 2, 8), ((0, 1), (1, 2)))
MIXED = ((6, 4, 9), ((0, 1), (0, 2), (1, 0)))
WAIST = ((4, 2, 4), ((0, 1), (1, 0), (1, 2), (2, 1)))
RING = ((2, 2, 2), ((0, 1), (0, 2), (1, 0), (1, 2), (2, 0), (2, 1)))


def all_wires(many):
    """Return all wires between so many registers, in order."""
    return tuple((j, i) for j in range(many) for i in range(many) if j != i)


def around(many):
    """Return the wires that lead from each of so many registers to the next one, and from the last one to the first."""
    return tuple(sorted({(i, (i + 1) % many) for i in range(many) if many > 1}))


def some_wires(random, many):
    """Return some of all wires between so many registers, or none, or all."""
    chance = random.random()
    return tuple(wire for wire in all_wires(many) if random.random() < chance)


def all_contents(machine):
    """Return all contents of machine."""
    return list(product(*[range(size) for size in machine[0]]))


def contents_of(random, machine):
    return tuple(random.randrange(size) for size in machine[0])


def deed_of(random, machine, most=10 ** 60):
    """Return a deed of machine, which has a wire, with a factor up to most."""
    j, i = random.choice(machine[1])
    least = step(machine, j, i)
    return (j, i, least * random.randint(-(most // least), most // least))


def program_of(random, machine, many):
    """Return a program of machine of so many deeds, of none if it has no wire."""
    return tuple(deed_of(random, machine) for _ in range(many if machine[1] else 0))


def table_by_words(random, machine):
    """Return a table of machine."""
    sizes = machine[0]
    rows = []
    for i, size in enumerate(sizes):
        least = [1 if j == i else step(machine, j, i) for j in range(len(sizes))]
        rows.append(tuple(random.randrange(size // one) * one for one in least))
    return tuple(rows)


def all_tables(machine):
    """Return all tables of machine."""
    sizes = machine[0]
    rows = [list(product(*[range(0, size, 1 if j == i else step(machine, j, i)) for j in range(len(sizes))]))
            for i, size in enumerate(sizes)]
    return list(product(*rows))


def tables_in_all(machine):
    """Return how many tables machine has, by their entries one by one."""
    sizes = machine[0]
    return prod(size // (1 if j == i else step(machine, j, i)) for i, size in enumerate(sizes) for j in range(len(sizes)))


def led_by(machine, table, contents):
    """Return where table leads contents, by the words of the document."""
    return tuple(sum(row[j] * contents[j] for j in range(len(row))) % size for row, size in zip(table, machine[0]))


def still_by_words(machine):
    many = len(machine[0])
    return tuple(tuple(int(i == j) for j in range(many)) for i in range(many))


def with_entry(table, i, j, entry):
    """Return table with another entry at (i, j)."""
    row = table[i][:j] + (entry,) + table[i][j + 1:]
    return table[:i] + (row,) + table[i + 1:]


def reached_from(machine, start, led):
    """Return the set of all that deeds of machine reach from start; led tells one deed's end."""
    reached, coming = {start}, [start]
    deeds = [(j, i, step(machine, j, i)) for j, i in machine[1]]
    while coming:
        one = coming.pop()
        for deed in deeds:
            end = led(machine, one, deed)
            if end not in reached:
                reached.add(end)
                coming.append(end)
    return reached


def contents_behind(machine, contents, deed):
    """Return the contents behind deed, by the words of the document."""
    j, i, c = deed
    held = (contents[i] + c * contents[j]) % machine[0][i]
    return contents[:i] + (held,) + contents[i + 1:]


def behind_each(machine, program, contents):
    """Return the contents behind all deeds of program, one by one."""
    for deed in program:
        contents = contents_behind(machine, contents, deed)
    return contents


def table_behind(machine, table, deed):
    """Return what table leads to, and deed behind it, as a table."""
    j, i, c = deed
    row = tuple((kept + c * given) % machine[0][i] for kept, given in zip(table[i], table[j]))
    return table[:i] + (row,) + table[i + 1:]


def behind_deeds(machine, program):
    """Return the table that program does, deed by deed."""
    found = still_by_words(machine)
    for deed in program:
        found = table_behind(machine, found, deed)
    return found


def tables_done(machine):
    """Return the set of all tables that programs of machine do; deeds have orders, so going ahead alone is enough."""
    return reached_from(machine, still_by_words(machine), table_behind)


@lru_cache(maxsize=None)
def roads_by_words(machine, p, j, i):
    """Return all roads for p from j to i, each with its climb."""
    registers = [k for k in range(len(machine[0])) if depth(machine, p, k) > 0]
    found = []
    if j in registers and i in registers:
        between = [k for k in registers if k not in (j, i)]
        for many in range(len(between) + 1):
            for row in permutations(between, many):
                way = (j,) + row + (i,)
                if all(wire in machine[1] for wire in zip(way, way[1:])):
                    found.append((way, climb_by_words(machine, p, way)))
    return tuple(found)


def climb_by_words(machine, p, way):
    return sum(max(0, depth(machine, p, b) - depth(machine, p, a)) for a, b in zip(way, way[1:]))


@lru_cache(maxsize=None)
def least_factor_by_words(machine, j, i):
    """Return the least factor from j to i, by all roads."""
    found = 1
    for p in primes_of(machine):
        climbs = [climbed for _, climbed in roads_by_words(machine, p, j, i)]
        found *= p ** min([depth(machine, p, i)] + climbs)
    return found


def trips_by_words(machine, p):
    """Return the round trips of all pairs that have one, by all roads."""
    found = {}
    for i, j in all_wires(len(machine[0])):
        there = [climbed for _, climbed in roads_by_words(machine, p, i, j)]
        back = [climbed for _, climbed in roads_by_words(machine, p, j, i)]
        if there and back:
            found[i, j] = min(there) + min(back)
    return found


def rooms_by_words(machine, p, trips, t):
    """Return the rooms of level t: what rows of registers reach, step by step."""
    found = set()
    for i in range(len(machine[0])):
        if depth(machine, p, i) > 0:
            room = {i}
            for _ in machine[0]:
                room |= {b for a, b in trips if a in room and trips[a, b] <= t}
            found.add(tuple(sorted(room)))
    return tuple(sorted(found))


def table_that_keeps_climbs(random, machine):
    """Return a table whose entries are multiples of the least factors."""
    sizes = machine[0]
    rows = []
    for i, size in enumerate(sizes):
        least = [1 if j == i else least_factor_by_words(machine, j, i) for j in range(len(sizes))]
        rows.append(tuple(random.randrange(size // one) * one for one in least))
    return tuple(rows)


def classes_of(machine):
    """Return the classes of all contents of machine, gone through deed by deed, each a sorted list."""
    left, found = set(all_contents(machine)), []
    while left:
        one = reached_from(machine, min(left), contents_behind)
        found.append(sorted(one))
        left -= one
    return found


def rows_of_contents(random, machine):
    """Return contents of machine: noughts, some with great parts in common, some with none."""
    sizes, found = machine[0], [(0,) * len(machine[0])]
    for i in range(len(sizes)):
        found.append(tuple(int(k == i) for k in range(len(sizes))))
    for _ in range(2):
        contents = contents_of(random, machine)
        found.append(contents)
        for p in primes_of(machine)[:3]:
            times = p ** random.randint(1, max(depth(machine, p, i) for i in range(len(sizes))))
            found.append(tuple(rest * times % size for rest, size in zip(contents, sizes)))
        found.append(tuple(random.choice((0, rest)) for rest in contents))
    return found


def shares_by_words(machine, contents):
    found = []
    for i, size in enumerate(machine[0]):
        share = gcd(size, contents[i])
        for j in range(len(machine[0])):
            if j != i:
                share = gcd(share, least_factor_by_words(machine, j, i) * contents[j])
        found.append(share)
    return tuple(found)


def gives_by_words(machine, shared):
    found = []
    for i, size in enumerate(machine[0]):
        give = size
        for j in range(len(machine[0])):
            if j != i:
                give = gcd(give, least_factor_by_words(machine, j, i) * shared[j])
        found.append(give)
    return tuple(found)


@lru_cache(maxsize=None)
def orders_and_signs(many):
    """Return all orders of so many columns, each with 1 or, if pairs change places an odd number of times, -1."""
    found = []
    for order in permutations(range(many)):
        turns = sum(order[a] > order[b] for a in range(many) for b in range(a + 1, many))
        found.append((order, (-1) ** turns))
    return found


def determinant_by_words(square):
    """Return the sum over all orders of the columns."""
    found = 0
    for order, sign in orders_and_signs(len(square)):
        found += sign * prod(row[j] for row, j in zip(square, order))
    return found


def small_machines(most=400, count=40, seed=1):
    """Return machines with at most so many contents, of one register to five, of one prime and of several."""
    random = Random(seed)
    found = [MACHINE, NARROW, MIXED, WAIST, RING, ((2,), ()), ((12,), ()), ((4, 4), ()), ((9, 3), ((0, 1),))]
    found = [machine for machine in found if prod(machine[0]) <= most]
    while len(found) < count:
        many = random.randint(1, 5)
        sizes = tuple(random.choice((2, 2, 3, 4, 4, 5, 6, 8, 9, 12)) for _ in range(many))
        if prod(sizes) <= most:
            found.append((sizes, some_wires(random, many)))
    return found


def great_size(random, primes):
    """Return a great size of some of primes."""
    size = 1
    while True:
        p = random.choice(primes)
        if size * p > MAX_SIZE:
            return size
        size *= p


def great_machines(seed=1):
    """Return machines of one register to six with great sizes, with no wire, a ring, some wires and all."""
    random = Random(seed)
    rows = [
        (10 ** 30,), (2 ** 99, 3 ** 62), (2 ** 99, 2 ** 50, 2 ** 98), (10 ** 30,) * 6, (2 ** 99,) * 6,
        (2 ** 99, 2 ** 98, 2 ** 97, 2 ** 3, 2 ** 2, 2), (97 ** 15, 97 ** 15, 97, 97 ** 2, 97 ** 14, 97 ** 7),
        tuple(great_size(random, PRIMES) for _ in range(6)), tuple(great_size(random, PRIMES[:3]) for _ in range(6)),
        tuple(great_size(random, PRIMES[:2]) for _ in range(4)), (prod(PRIMES[:20]),) * 6,
        tuple(prod(PRIMES[at:at + 16]) for at in range(6)),
    ]
    return [(sizes, wires) for sizes in rows
            for wires in ((), around(len(sizes)), some_wires(random, len(sizes)), all_wires(len(sizes)))]


def around_and_back(many):
    """Return the wires that lead from each of so many registers to the next one and back."""
    return tuple(sorted([(i, i + 1) for i in range(many - 1)] + [(i + 1, i) for i in range(many - 1)]))


# One narrow register between, several, and roads of their own for each prime.
BETWEEN = [
    NARROW, WAIST, ((16, 2, 16), ((0, 1), (1, 2))), ((64, 8, 2, 8, 64), tuple((i, i + 1) for i in range(4))),
    ((64, 2, 64, 2, 64), tuple((i, i + 1) for i in range(4))), ((36, 4, 9, 36), ((0, 1), (0, 2), (1, 3), (2, 3))),
    ((36, 12, 18, 36), ((0, 1), (0, 2), (1, 3), (2, 3))), ((30, 2, 3, 5, 30), tuple((0, i) for i in (1, 2, 3)) +
                                                         tuple((i, 4) for i in (1, 2, 3))),
    ((2310 ** 8,) * 6, around(6)), ((2310 ** 8, 2 ** 90, 6 ** 30, 10 ** 20, 14 ** 20, 2310 ** 8), around(6)),
]


def kinds_of_machines():
    """Return machines of all kinds."""
    random = Random(1)
    found = small_machines(count=60) + great_machines() + BETWEEN
    for _ in range(20):
        sizes = tuple(random.choice((2, 4, 8, 64, 6, 12, 36, 9, 162, 10 ** 30)) for _ in range(6))
        found.append((sizes, some_wires(random, 6)))
    return found


def levelled_machines(count=30, seed=1):
    """Return machines of which rooms of several levels tell: depths near one another, and many wires both ways."""
    random = Random(seed)
    found = [((16, 8, 4, 2, 4, 8), around_and_back(6)), ((2 ** 9, 2 ** 6, 2 ** 9, 2 ** 8), around_and_back(4)),
             ((3 ** 9, 3 ** 5, 3 ** 7, 3 ** 6, 3 ** 9, 3 ** 7), around(6)), ((64, 32, 64, 16), around(4))]
    while len(found) < count:
        many = random.randint(2, 6)
        near = random.randint(2, 30)
        sizes = tuple(random.choice((2, 3)) ** random.randint(near, near + 4) for _ in range(many))
        if random.random() < 0.5:
            sizes = tuple(2 ** random.randint(near, near + 4) * 3 ** random.randint(0, 4) for _ in range(many))
        wires = random.choice((around, around_and_back, all_wires))(many)
        found.append((sizes, tuple(wire for wire in wires if random.random() < 0.9)))
    return found


def machines_of_few_tables(most=700, count=60, seed=1):
    """Return machines of two and of three registers all of whose tables can be gone through."""
    random = Random(seed)
    found = [WAIST, RING, ((4, 4), all_wires(2)), ((8, 4), all_wires(2)), ((5, 5), all_wires(2)), ((6, 4), all_wires(2)),
             ((6, 6), ((0, 1),)), ((9, 3), ((0, 1),)), ((2, 4, 2), around(3)), ((4, 2, 3), all_wires(3)), ((8, 2), ())]
    found = [machine for machine in found if tables_in_all(machine) <= most]
    while len(found) < count:
        many = random.randint(2, 3)
        sizes = tuple(random.choice((2, 3, 4, 5, 6, 8, 9, 12, 16)) for _ in range(many))
        if tables_in_all((sizes, ())) <= most:
            found.append((sizes, some_wires(random, many)))
    return found
