import unittest
from copy import deepcopy
from math import gcd
from random import Random

from narrowadds.bounds import MAX_DEEDS
from narrowadds.errors import Barred
from narrowadds.integers import inverse
from narrowadds.programs import backward, program_error, run
from narrowadds.tables import both, moved, power, still, table_of, undone
from narrowadds.wiring import lean
from narrowadds.writing import written
from tests.examples import check_examples
from tests.machinery import (
    MACHINE, MIXED, WAIST, all_contents, all_tables, all_wires, around, behind_deeds, contents_of, determinant_by_words,
    kinds_of_machines, levelled_machines, machines_of_few_tables, program_of, small_machines, table_by_words,
    tables_done, with_entry,
)
from tests.papers import table_papers

EXAMPLES = """
    >>> from narrowadds.tables import still, table_of
    >>> machine = ((8, 4, 8), ((0, 1), (1, 0), (1, 2), (2, 0)))
    >>> from narrowadds.barring import is_done, paper_holds
    >>> from narrowadds.writing import written
    >>> one, two, three = ((5, 0, 0), (0, 1, 0), (0, 0, 1)), ((3, 0, 0), (0, 3, 0), (0, 0, 1)), ((3, 0, 0), (0, 1, 0), (0, 0, 1))
    >>> [is_done(machine, own) for own in (still(machine), one, two, three)], table_of(machine, written(machine, one)) == one, table_of(machine, written(machine, two)) == two
    ([True, True, True, False], True, True)
    >>> full, half, flat = ((1, 6, 5), (3, 1, 2), (2, 0, 5)), ((1, 0, 0), (0, 1, 0), (1, 0, 1)), ((2, 0, 0), (0, 1, 0), (0, 0, 1))
    >>> is_done(machine, full), is_done(machine, full[:2] + ((2, 0, 7),)), is_done(machine, half), is_done(machine, flat)
    (True, False, False, False)
    >>> [paper_holds(machine, three, value) for value in (("room", 2, 1, (0, 1, 2)), ("room", 2, 0, (0,)), ("room", 2, 2, (0, 1, 2)), ("room", 2, True, (0, 1, 2)), ["room", 2, 1, (0, 1, 2)], ("entry", 0, 1))]
    [True, False, False, False, False, False]
    >>> [paper_holds(machine, half, value) for value in (("entry", 2, 0), ("entry", 0, 2), ("entry", 2, 2), None)], paper_holds(machine, flat, ("room", 2, 0, (0,)))
    ([True, False, False, False], True)
"""


def of_one_size(random, size, many, unit):
    """Return a table of registers of one size that has the determinant unit, which size has no prime in common with."""
    while True:
        rows = [[random.randrange(size) for _ in range(many)] for _ in range(many)]
        due = determinant_by_words(rows)
        if gcd(due, size) == 1:
            times = unit * inverse(due, size)
            rows[0] = [times * entry % size for entry in rows[0]]
            return tuple(tuple(row) for row in rows)


class Written(unittest.TestCase):
    def check(self, machine, table):
        """Check that there is a program or a paper; return the program, None if there is none."""
        papers = table_papers(machine, table)
        if papers:
            self.barred(machine, table, papers)
            return None
        return self.done(machine, table)

    def done(self, machine, table):
        program = written(machine, table)
        self.assertIsNone(program_error(machine, program), (machine, table))
        self.assertLessEqual(len(program), MAX_DEEDS)
        self.assertEqual(behind_deeds(machine, program), table, (machine, table))
        return program

    def barred(self, machine, table, papers):
        with self.assertRaises(Barred) as caught:
            written(machine, table)
        self.assertEqual(list(vars(caught.exception)), ["paper"])
        self.assertIn(repr(caught.exception.paper), {repr(paper) for paper in papers})

    def test_examples_of_the_document(self):
        check_examples(self, EXAMPLES)

    def test_tables_of_drawn_programs(self):
        random = Random(1)
        for machine in kinds_of_machines() + levelled_machines(count=80):
            for many in (1, 5, 60):
                table = behind_deeds(machine, program_of(random, machine, many))
                self.assertEqual(table_papers(machine, table), [])
                self.done(machine, table)

    def test_all_tables_of_small_machines(self):
        for machine in machines_of_few_tables():
            due = tables_done(machine)
            for table in all_tables(machine):
                program = self.check(machine, table)
                self.assertEqual(program is not None, table in due, (machine, table))

    def test_all_tables_that_greater_machines_do(self):
        for machine in (((8, 8), all_wires(2)), ((4, 4, 2), around(3)), ((9, 3, 9), around(3)), ((12, 6), all_wires(2)),
                        ((8, 2, 4), ((0, 1), (1, 2), (2, 0))), ((4, 2, 4), all_wires(3))):
            for table in sorted(tables_done(machine))[::5]:
                self.done(machine, table)

    def test_drawn_tables(self):
        random = Random(2)
        for machine in small_machines() + levelled_machines():
            for _ in range(4):
                self.check(machine, table_by_words(random, machine))

    def test_one_entry_turned(self):
        random = Random(3)
        for machine in kinds_of_machines() + levelled_machines(count=60):
            many = len(machine[0])
            for _ in range(3):
                i, j = random.randrange(many), random.randrange(many)
                size = machine[0][i]
                least = 1 if i == j else size // gcd(size, machine[0][j])
                table = behind_deeds(machine, program_of(random, machine, 40))
                entry = (table[i][j] + least * random.choice((1, 2, 3, 4, 6, 8, 2 ** 20, 6 ** 20))) % size
                self.check(machine, with_entry(table, i, j, entry))

    def test_registers_of_one_size_that_hang_all_together(self):
        random = Random(4)
        for size in (2, 3, 4, 8, 12, 30, 2 ** 99, 97 ** 15, 10 ** 30):
            units = [1] + [unit for unit in (2, 3, 5, 7, size - 1, size // 2 + 1, 11) if gcd(unit, size) == 1]
            for many in range(2, 7):
                for wires in (around(many), all_wires(many)):
                    machine = ((size,) * many, wires)
                    for unit in units:
                        table = of_one_size(random, size, many, unit)
                        self.assertEqual(self.check(machine, table) is not None, unit % size == 1)

    def test_no_wire_does_nothing_but_still(self):
        random = Random(5)
        for machine in kinds_of_machines():
            alone = (machine[0], ())
            self.assertEqual(written(alone, still(alone)), ())
            table = table_by_words(random, machine)
            if table != still(alone):
                self.barred(alone, table, table_papers(alone, table))

    def test_a_round_trip_makes_units(self):
        for e in (2, 3, 10, 49):
            for t in (1, 2, e // 2):
                machine = ((2 ** (2 * e), 2 ** (2 * e - t)), all_wires(2))
                for unit in (1 + 2 ** t, 1 - 2 ** t, 1 + 2 ** t * 5):
                    for one, other in ((unit, inverse(unit, 2 ** 99)), (unit, unit), (unit, 1), (1, unit)):
                        table = ((one % machine[0][0], 0), (0, other % machine[0][1]))
                        self.check(machine, table)
                self.done(machine, (((1 + 2 ** t), 0), (0, inverse(1 + 2 ** t, 2 ** 99) % machine[0][1])))

    def test_units_go_out_into_a_narrow_register(self):
        machine = ((2 ** 20, 2 ** 20, 2 ** 3), ((0, 2), (1, 2), (2, 0), (2, 1)))
        for unit in (1, 9, 17, 1 + 2 ** 17, 2 ** 19 + 1, 2 ** 20 - 2 ** 17 + 1):
            self.check(machine, ((unit, 0, 0), (0, 1, 0), (0, 0, 1)))
        self.done(machine, ((1 + 2 ** 17, 0, 0), (0, 1, 0), (0, 0, 1)))
        self.done(machine, ((1 + 2 ** 18, 0, 0), (0, 1 + 2 ** 19, 0), (0, 0, 1)))

    def test_each_prime_by_itself(self):
        machine = ((10 ** 15, 6 ** 20, 15 ** 10, 2 ** 10, 7 ** 10, 14 ** 10), all_wires(6))
        random = Random(6)
        for _ in range(10):
            table = behind_deeds(machine, program_of(random, machine, 200))
            self.done(machine, table)

    def test_programs_are_short(self):
        for machine in kinds_of_machines() + levelled_machines():
            program = written(machine, behind_deeds(machine, program_of(Random(7), machine, 300)))
            self.assertLessEqual(len(program), 20000)


class WhatHolds(unittest.TestCase):
    def test_tables_put_together(self):
        random = Random(8)
        for machine in kinds_of_machines() + levelled_machines():
            one, other = [table_of(machine, program_of(random, machine, 30)) for _ in range(2)]
            for table in (both(machine, one, other), undone(machine, one), power(machine, other, 10 ** 30)):
                self.assertEqual(behind_deeds(machine, written(machine, table)), table)

    def test_contents_are_led_as_by_the_table(self):
        random = Random(9)
        for machine in small_machines(count=20):
            table = table_of(machine, program_of(random, machine, 20))
            program = written(machine, table)
            for contents in all_contents(machine):
                self.assertEqual(run(machine, program, contents), moved(machine, table, contents))
                self.assertEqual(run(machine, backward(program), moved(machine, table, contents)), contents)
        for machine in kinds_of_machines():
            table, contents = table_of(machine, program_of(random, machine, 20)), contents_of(random, machine)
            self.assertEqual(run(machine, written(machine, table), contents), moved(machine, table, contents))

    def test_machines_that_are_alike_do_the_same(self):
        random = Random(10)
        for machine in kinds_of_machines() + levelled_machines():
            fewer = lean(machine)
            table = table_of(machine, program_of(random, machine, 40))
            self.assertEqual(behind_deeds(fewer, written(fewer, table)), table)


class Calls(unittest.TestCase):
    def test_nothing_that_is_handed_in_is_changed(self):
        told = [MACHINE, ((5, 0, 0), (0, 1, 0), (0, 0, 1))]
        same = deepcopy(told)
        written(*told)
        written(table=told[1], machine=told[0])
        self.assertEqual(told, same)

    def test_equal_calls_get_equal_results(self):
        random = Random(11)
        for machine in (MACHINE, MIXED, WAIST, *levelled_machines()):
            table = table_of(machine, program_of(random, machine, 20))
            self.assertEqual(repr(written(machine, table)), repr(written(machine, table)))
            table = with_entry(table, 0, 0, 0)
            papers = []
            for _ in range(2):
                with self.assertRaises(Barred) as caught:
                    written(machine, table)
                papers.append(repr(caught.exception.paper))
            self.assertEqual(papers[0], papers[1])
