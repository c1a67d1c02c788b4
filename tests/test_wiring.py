import unittest
from itertools import combinations
from random import Random

from narrowadds.errors import Unfit
from narrowadds.machines import machine_error, step
from narrowadds.roads import least_factor
from narrowadds.wiring import does_all, lean, spare
from tests.examples import check_examples
from tests.machinery import (
    MACHINE, NARROW, RING, WAIST, all_wires, around, great_machines, least_factor_by_words, small_machines,
    some_wires, tables_done,
)

EXAMPLES = """
    >>> machine = ((8, 4, 8), ((0, 1), (1, 0), (1, 2), (2, 0)))
    >>> narrow, mixed = ((8, 2, 8), ((0, 1), (1, 2))), ((6, 4, 9), ((0, 1), (0, 2), (1, 0)))
    >>> from narrowadds.wiring import does_all, lean, spare
    >>> three, cross = ((8, 4, 8), ((0, 1), (1, 2), (2, 0))), ((8, 4, 8), ((0, 2), (2, 1)))
    >>> does_all(machine, three), does_all(three, machine), does_all(machine, cross), does_all(cross, machine), does_all(machine, ((8, 4, 8), ((2, 1),)))
    (True, True, False, False, True)
    >>> does_all(machine, narrow)
    raises Unfit()
    >>> spare(machine), lean(machine) == three, spare(three), spare(narrow)
    (((1, 0),), True, (), ())
    >>> ring = ((2, 2, 2), ((0, 1), (0, 2), (1, 0), (1, 2), (2, 0), (2, 1)))
    >>> spare(ring) == ring[1], spare(lean(ring)), does_all(lean(ring), ring)
    (True, (), True)
"""
# Sizes few enough of whose tables are done by programs to go through them all, with any wires.
FEW_DONE = ((2, 2), (4, 2), (4, 4), (6, 4), (9, 3), (2, 2, 2), (4, 2, 2), (2, 3, 2), (5, 5), (7, 3))


def rows_of_wires(many):
    """Return all ascending rows of wires between so many registers."""
    wires = all_wires(many)
    return [row for count in range(len(wires) + 1) for row in combinations(wires, count)]


def without(machine, wire):
    return (machine[0], tuple(kept for kept in machine[1] if kept != wire))


def does_by_words(machine, other):
    """Return whether machine does all of other, by the factors."""
    return all(step(other, j, i) % least_factor_by_words(machine, j, i) == 0 for j, i in other[1])


def are_alike(one, other):
    return does_by_words(one, other) and does_by_words(other, one)


def machines():
    """Return machines with no wire, some, all and a ring."""
    random = Random(1)
    found = small_machines(count=60) + great_machines()
    for _ in range(30):
        many = random.randint(2, 6)
        sizes = tuple(random.choice((2, 4, 8, 64, 6, 12, 36, 9, 162, 10 ** 30)) for _ in range(many))
        found.extend((sizes, wires) for wires in (around(many), some_wires(random, many)))
    return found


class Examples(unittest.TestCase):
    def test_examples_of_the_document(self):
        check_examples(self, EXAMPLES)


class DoesAll(unittest.TestCase):
    def test_against_all_tables_that_programs_do(self):
        for sizes in FEW_DONE:
            random = Random(str(sizes))
            rows = rows_of_wires(len(sizes))
            rows = rows if len(rows) <= 4 else random.sample(rows, 12)
            tables = [tables_done((sizes, wires)) for wires in rows]
            for one, wires in zip(tables, rows):
                for other, less in zip(tables, rows):
                    self.assertIs(does_all((sizes, wires), (sizes, less)), other <= one, (sizes, wires, less))

    def test_against_the_factors(self):
        random = Random(2)
        for machine in machines():
            for _ in range(5):
                other = (machine[0], some_wires(random, len(machine[0])))
                self.assertIs(does_all(machine, other), does_by_words(machine, other))

    def test_a_machine_and_itself(self):
        for machine in machines():
            self.assertIs(does_all(machine, machine), True)

    def test_more_wires_and_fewer(self):
        for machine in machines():
            sizes, wires = machine
            self.assertIs(does_all((sizes, all_wires(len(sizes))), machine), True)
            self.assertIs(does_all(machine, (sizes, ())), True)
            for wire in wires:
                self.assertIs(does_all(machine, without(machine, wire)), True)

    def test_over_a_third_one(self):
        random = Random(3)
        for sizes in ((8, 4, 8), (2, 2, 2), (6, 6, 6), (12, 18, 36), (4, 4, 4, 4), (10 ** 30,) * 4):
            rows = [(sizes, some_wires(random, len(sizes))) for _ in range(14)]
            for one in rows:
                for other in rows:
                    for third in rows:
                        if does_all(one, other) and does_all(other, third):
                            self.assertTrue(does_all(one, third))

    def test_other_sizes(self):
        for other in (NARROW, ((8, 4), ()), ((8, 8, 4), MACHINE[1]), ((8, 4, 8, 8), MACHINE[1]), ((4, 4, 8), ()), ((2,), ())):
            for one, two in ((MACHINE, other), (other, MACHINE)):
                with self.assertRaises(Unfit) as caught:
                    does_all(one, two)
                self.assertEqual(vars(caught.exception), {})


class Spare(unittest.TestCase):
    def test_against_the_words(self):
        # All roads of a machine with six registers and all wires are many: not each of those is gone through.
        for machine in [one for one in machines() if len(one[1]) < 15] + great_machines()[15::12]:
            due = tuple(wire for wire in machine[1] if are_alike(without(machine, wire), machine))
            self.assertEqual(spare(machine), due)

    def test_against_all_tables_that_programs_do(self):
        for machine in (WAIST, RING, ((4, 4), all_wires(2)), ((4, 2, 2), all_wires(3)), ((2, 3, 2), all_wires(3))):
            tables = tables_done(machine)
            due = tuple(wire for wire in machine[1] if tables_done(without(machine, wire)) == tables)
            self.assertEqual(spare(machine), due)

    def test_no_wire(self):
        for sizes in ((8,), (8, 4, 8), (10 ** 30,) * 6):
            self.assertEqual((spare((sizes, ())), lean((sizes, ()))), ((), (sizes, ())))

    def test_a_ring_has_none(self):
        for many in range(2, 7):
            machine = ((10 ** 30,) * many, around(many))
            self.assertEqual((spare(machine), lean(machine)), ((), machine))

    def test_all_wires_of_like_registers(self):
        for many in range(3, 7):
            machine = ((10 ** 30,) * many, all_wires(many))
            self.assertEqual(spare(machine), machine[1])

    def test_wires_without_a_prime_in_common(self):
        machine = ((8, 9, 5), all_wires(3))
        self.assertEqual((spare(machine), lean(machine)), (machine[1], (machine[0], ())))


class Lean(unittest.TestCase):
    def test_what_is_left_is_alike_and_has_no_spare_wire(self):
        for machine in machines():
            found = lean(machine)
            self.assertIsNone(machine_error(found))
            self.assertEqual(found[0], machine[0])
            self.assertLessEqual(set(found[1]), set(machine[1]))
            self.assertTrue(are_alike(found, machine))
            self.assertTrue(does_all(found, machine) and does_all(machine, found))
            self.assertEqual(spare(found), ())
            for wire in found[1]:
                self.assertFalse(are_alike(without(found, wire), machine))

    def test_the_same_can_be_added(self):
        for machine in machines():
            found = lean(machine)
            for j, i in all_wires(len(machine[0])):
                self.assertEqual(least_factor(found, j, i), least_factor(machine, j, i))

    def test_equal_calls_get_equal_results(self):
        for machine in machines():
            self.assertEqual(repr(lean(machine)), repr(lean(machine)))
