"""Tables: what a program does, whatever stands in the registers."""

from narrowadds.errors import Unfit
from narrowadds.kinds import is_below
from narrowadds.machines import depth, part_of, primes_of, step
from narrowadds.squares import determinant, inverse_square, square_of


def table_error(machine, value):
    """Return what is wrong with value as a table of machine, None if it is one."""
    many = len(machine[0])
    if not is_row(value, many) or not all([is_row(row, many) for row in value]):
        return "form"
    return entry_error(machine, value)


def entry_error(machine, rows):
    """Return what is wrong with the first wrong entry of rows, None if none is; None may stand for a row."""
    for i, row in enumerate(rows):
        if row is not None:
            for j, entry in enumerate(row):
                if not is_entry(machine, i, j, entry):
                    return ("entry", i, j)
    return None


def is_row(value, many):
    """Return whether value is a tuple of so many items."""
    return isinstance(value, tuple) and len(value) == many


def is_entry(machine, i, j, value):
    """Return whether value may stand at (i, j) in a table of machine."""
    if not is_below(value, machine[0][i]):
        return False
    return i == j or value % step(machine, j, i) == 0


def still(machine):
    """Return the table that leads all contents of machine to themselves."""
    registers = range(len(machine[0]))
    return tuple([tuple([1 if i == j else 0 for j in registers]) for i in registers])


def deed_table(machine, deed):
    """Return the table that leads as doing deed does."""
    return table_of(machine, (deed,))


def table_of(machine, program):
    """Return the table that leads as doing program does."""
    sizes = machine[0]
    rows = [list(row) for row in still(machine)]
    for j, i, c in program:
        rows[i] = [(kept + c * given) % sizes[i] for kept, given in zip(rows[i], rows[j])]
    return tuple([tuple(row) for row in rows])


def both(machine, one, other):
    """Return the table that leads as first one does, then other."""
    columns = list(zip(*one))
    return tuple([
        tuple([product_sum(row, column) % size for column in columns])
        for size, row in zip(machine[0], other)
    ])


def moved(machine, table, contents):
    """Return the contents to which table leads contents."""
    return tuple([product_sum(row, contents) % size for size, row in zip(machine[0], table)])


def product_sum(row, column):
    """Return the sum of the products of what stands at the same places of both."""
    return sum([entry * rest for entry, rest in zip(row, column)])


def power(machine, table, k):
    """Return the table that leads as table does k times, one behind another."""
    found = still(machine)
    doubled = table
    left = k
    while left > 0:
        if left % 2 == 1:
            found = both(machine, found, doubled)
        doubled = both(machine, doubled, doubled)
        left //= 2
    return found


def can_be_undone(machine, table):
    """Return whether some table leads back all that table leads on."""
    for p in primes_of(machine):
        for registers in layers(machine, p):
            if determinant(square_of(table, registers)) % p == 0:
                return False
    return True


def layers(machine, p):
    """Return the lists of registers whose sizes p divides equally often, for each number of times above 0."""
    found = {}
    for i in range(len(machine[0])):
        found.setdefault(depth(machine, p, i), []).append(i)
    return [found[e] for e in sorted(found) if e > 0]


def undone(machine, table):
    """Return the table that leads back all that table leads on; raise Unfit() if there is none."""
    if not can_be_undone(machine, table):
        raise Unfit()
    found = nearly_undone(machine, table)
    # Newton's steps: each doubles how far found is right, as what is wrong at first vanishes in some power.
    rest = both(machine, found, table)
    while rest != still(machine):
        found = both(machine, twice_less(machine, rest), found)
        rest = both(machine, found, table)
    return found


def nearly_undone(machine, table):
    """Return a table that undoes table modulo each prime, among the registers of each of its layers."""
    sizes = machine[0]
    rows = [[0] * len(sizes) for _ in sizes]
    for p in primes_of(machine):
        for registers in layers(machine, p):
            square = inverse_square(square_of(table, registers), p)
            for i, row in zip(registers, square):
                unit = part_of(machine, p, i)
                for j, entry in zip(registers, row):
                    rows[i][j] = (rows[i][j] + entry * unit) % sizes[i]
    return tuple([tuple(row) for row in rows])


def twice_less(machine, table):
    """Return twice the table still, less table."""
    return tuple([
        tuple([(2 * kept - entry) % size for kept, entry in zip(unmoved, row)])
        for size, unmoved, row in zip(machine[0], still(machine), table)
    ])
