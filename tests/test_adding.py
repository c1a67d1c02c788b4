import unittest
from random import Random

from narrowadds.adding import adding
from narrowadds.bounds import MAX_DEEDS
from narrowadds.errors import Unfit
from narrowadds.machines import primes_of
from narrowadds.programs import program_error, run
from narrowadds.roads import least_factor
from narrowadds.tables import still, table_of
from tests.examples import check_examples
from tests.machinery import (
    BETWEEN, MACHINE, MIXED, NARROW, RING, WAIST, all_contents, all_wires, around, kinds_of_machines,
    least_factor_by_words, small_machines, still_by_words, tables_done, with_entry,
)

EXAMPLES = """
    >>> from narrowadds.adding import adding
    >>> from narrowadds.programs import run
    >>> from narrowadds.tables import still, table_of
    >>> machine = ((8, 4, 8), ((0, 1), (1, 0), (1, 2), (2, 0)))
    >>> four = ((0, 1, 1), (1, 2, 2), (0, 1, -1), (1, 2, -2))
    >>> run(machine, four, (3, 1, 5)), table_of(machine, four) == table_of(machine, adding(machine, 0, 2, 2)), table_of(machine, four)
    ((3, 1, 3), True, ((1, 0, 0), (0, 1, 0), (2, 0, 1)))
    >>> table_of(machine, adding(machine, 0, 2, 8)) == still(machine), run(machine, adding(machine, 2, 1, -3), (0, 0, 1))
    (True, (0, 1, 1))
    >>> adding(machine, 0, 2, 1)
    raises Unfit()
"""
GREATEST = 10 ** 60


class Examples(unittest.TestCase):
    def test_examples_of_the_document(self):
        check_examples(self, EXAMPLES)


class Adding(unittest.TestCase):
    def added(self, machine, j, i, c):
        """Check that c is added; return the program."""
        program = adding(machine, j, i, c)
        self.assertIsNone(program_error(machine, program), (machine, j, i, c))
        due = with_entry(still_by_words(machine), i, j, c % machine[0][i])
        self.assertEqual(table_of(machine, program), due, (machine, j, i, c))
        return program

    def unfit(self, machine, j, i, c):
        with self.assertRaises(Unfit) as caught:
            adding(machine, j, i, c)
        self.assertEqual(vars(caught.exception), {})

    def test_each_pair_of_registers(self):
        random = Random(2)
        for machine in kinds_of_machines():
            for j, i in all_wires(len(machine[0])):
                size, least = machine[0][i], least_factor_by_words(machine, j, i)
                top = GREATEST // least
                for times in (0, 1, -3, top, -top, random.randint(-top, top)):
                    self.added(machine, j, i, times * least)
                for c in (size, -size, GREATEST // size * size):
                    self.added(machine, j, i, c)

    def test_multiples_of_the_least_factor_and_nothing_else(self):
        for machine in small_machines(count=30) + BETWEEN[:8]:
            for j, i in all_wires(len(machine[0])):
                least = least_factor_by_words(machine, j, i)
                for c in range(-2 * machine[0][i], 2 * machine[0][i] + 1):
                    if c % least == 0:
                        self.added(machine, j, i, c)
                    else:
                        self.unfit(machine, j, i, c)

    def test_great_factors_that_are_no_multiples(self):
        for machine in kinds_of_machines():
            for j, i in all_wires(len(machine[0])):
                least = least_factor_by_words(machine, j, i)
                top = GREATEST // least * least
                for c in (1, -1, least - 1, least + 1, 1 - least, top - 1, 1 - top):
                    if c % least != 0:
                        self.unfit(machine, j, i, c)

    def test_against_all_tables_that_programs_do(self):
        for machine in (WAIST, RING, MIXED, NARROW, ((12, 18), all_wires(2)), ((9, 3, 9), around(3))):
            tables = tables_done(machine)
            for j, i in all_wires(len(machine[0])):
                for c in range(machine[0][i]):
                    if with_entry(still_by_words(machine), i, j, c) in tables:
                        self.added(machine, j, i, c)
                    else:
                        self.unfit(machine, j, i, c)

    def test_no_wire(self):
        machine = ((8, 12, 10 ** 30), ())
        for j, i in all_wires(3):
            for c in (0, machine[0][i], -7 * machine[0][i]):
                self.assertEqual(table_of(machine, self.added(machine, j, i, c)), still(machine))
            for c in (1, machine[0][i] - 1, machine[0][i] + 1, machine[0][i] // 2):
                self.unfit(machine, j, i, c)

    def test_by_all_contents(self):
        for machine in small_machines(count=15) + BETWEEN[:2]:
            for j, i in all_wires(len(machine[0])):
                c = least_factor(machine, j, i)
                program = adding(machine, j, i, c)
                for contents in all_contents(machine):
                    due = list(contents)
                    due[i] = (due[i] + c * due[j]) % machine[0][i]
                    self.assertEqual(run(machine, program, contents), tuple(due))

    def test_programs_are_short(self):
        for machine in kinds_of_machines():
            for j, i in all_wires(len(machine[0])):
                program = adding(machine, j, i, least_factor(machine, j, i))
                self.assertLessEqual(len(program), 46 * len(primes_of(machine)))
                self.assertLessEqual(len(program), MAX_DEEDS)

    def test_each_prime_by_its_own_road(self):
        machine = BETWEEN[5]
        self.assertEqual(least_factor(machine, 0, 3), 1)
        program = self.added(machine, 0, 3, 1)
        self.assertEqual({(j, i) for j, i, _ in program}, set(machine[1]))

    def test_equal_calls_get_equal_results(self):
        for machine in kinds_of_machines():
            for j, i in all_wires(len(machine[0])):
                c = 7 * least_factor(machine, j, i)
                self.assertEqual(repr(adding(machine, j, i, c)), repr(adding(machine, j, i, c)))


class WhatHolds(unittest.TestCase):
    def test_a_factor_modulo_the_size(self):
        for machine in (MACHINE, MIXED, WAIST, BETWEEN[9]):
            for j, i in all_wires(len(machine[0])):
                c, size = least_factor(machine, j, i), machine[0][i]
                due = table_of(machine, adding(machine, j, i, c))
                for same in (c + size, c - size, c + 10 ** 20 * size):
                    self.assertEqual(table_of(machine, adding(machine, j, i, same)), due)
