import unittest
from copy import deepcopy
from math import prod
from random import Random

from narrowadds.counts import table_count, undone_count
from narrowadds.machines import depth, primes_of, step
from narrowadds.roads import least_factor
from narrowadds.tables import can_be_undone, moved
from narrowadds.wiring import lean
from tests.examples import check_examples
from tests.machinery import (
    MACHINE, MIXED, RING, WAIST, all_contents, all_tables, all_wires, around, kinds_of_machines, levelled_machines,
    machines_of_few_tables, roads_by_words, rooms_by_words, small_machines, some_wires, tables_done, trips_by_words,
)

EXAMPLES = """
    >>> from narrowadds.counts import table_count, undone_count
    >>> machine = ((8, 4, 8), ((0, 1), (1, 0), (1, 2), (2, 0)))
    >>> table_count(machine), undone_count(machine), table_count((machine[0], ())), undone_count((machine[0], ()))
    (131072, 786432, 1, 786432)
    >>> ring = ((5, 5), ((0, 1), (1, 0)))
    >>> table_count(ring), undone_count(ring), table_count(((5, 5), ((0, 1),))), table_count(((6, 4), ((0, 1), (1, 0)))), table_count(((7,), ())), undone_count(((7,), ()))
    (120, 480, 5, 8, 1, 6)
"""


def squares_that_can_be_undone(p, e, many):
    return p ** (many * many * (e - 1)) * prod(p ** many - p ** k for k in range(many))


def undone_count_by_words(machine):
    """Return the product that the document tells."""
    found = 1
    for p in primes_of(machine):
        depths = [depth(machine, p, i) for i in range(len(machine[0]))]
        for j, i in all_wires(len(depths)):
            found *= p ** min(depths[j], depths[i]) if depths[j] != depths[i] else 1
        for e in set(depths) - {0}:
            found *= squares_that_can_be_undone(p, e, depths.count(e))
    return found


def table_count_by_words(machine):
    """Return the product that the document tells."""
    found = 1
    for p in primes_of(machine):
        depths = [depth(machine, p, i) for i in range(len(machine[0]))]
        trips = trips_by_words(machine, p)
        lowest = rooms_by_words(machine, p, trips, 0)
        for j, i in all_wires(len(depths)):
            climbs = [climbed for _, climbed in roads_by_words(machine, p, j, i)]
            if climbs and min(climbs) < depths[i] and not any(j in room and i in room for room in lowest):
                found *= p ** (depths[i] - min(climbs))
        for room in lowest:
            found *= squares_that_can_be_undone(p, depths[room[0]], len(room))
        for t in range(max(depths)):
            for room in rooms_by_words(machine, p, trips, t):
                if min(depths[i] for i in room) > t:
                    found, rest = divmod(found, p if t else p - 1)
                    assert rest == 0
    return found


class Examples(unittest.TestCase):
    def test_examples_of_the_document(self):
        check_examples(self, EXAMPLES)


class TableCounts(unittest.TestCase):
    def test_against_all_tables_that_programs_do(self):
        for machine in machines_of_few_tables(most=3000, count=150, seed=3):
            self.assertEqual(table_count(machine), len(tables_done(machine)), machine)

    def test_against_tables_of_greater_machines(self):
        random = Random(1)
        found = []
        while len(found) < 40:
            many = random.randint(2, 4)
            p = random.choice((2, 2, 3))
            machine = (tuple(p ** random.randint(1, 5) for _ in range(many)), some_wires(random, many))
            if 100 <= table_count(machine) <= 20000:
                found.append(machine)
        for machine in found:
            self.assertEqual(table_count(machine), len(tables_done(machine)), machine)

    def test_against_the_words(self):
        for machine in kinds_of_machines() + levelled_machines(count=80):
            self.assertEqual(table_count(machine), table_count_by_words(machine), machine)

    def test_the_first_machine_by_hand(self):
        self.assertEqual(table_count(MACHINE), 4 * 4 * 4 * 4 * 8 * 4 * 4 * 2 * 4 // 2)

    def test_no_wire_does_one_table(self):
        for machine in kinds_of_machines() + levelled_machines():
            self.assertEqual(table_count((machine[0], ())), 1)

    def test_registers_of_one_size_that_hang_all_together(self):
        for p, e in ((2, 1), (2, 99), (3, 62), (97, 15)):
            for many in range(2, 7):
                for wires in (around(many), all_wires(many)):
                    due = squares_that_can_be_undone(p, e, many) // ((p - 1) * p ** (e - 1))
                    self.assertEqual(table_count(((p ** e,) * many, wires)), due)

    def test_great_machines_have_whole_numbers(self):
        for machine in kinds_of_machines():
            for function in (table_count, undone_count):
                self.assertIs(type(function(machine)), int)
                self.assertGreaterEqual(function(machine), 1)


class UndoneCounts(unittest.TestCase):
    def test_against_all_tables(self):
        for machine in machines_of_few_tables(most=1500, count=60, seed=4):
            due = len([table for table in all_tables(machine) if can_be_undone(machine, table)])
            self.assertEqual(undone_count(machine), due, machine)

    def test_against_where_all_tables_lead(self):
        for machine in machines_of_few_tables(most=200, count=25, seed=5):
            due = 0
            for table in all_tables(machine):
                ends = {moved(machine, table, contents) for contents in all_contents(machine)}
                due += len(ends) == prod(machine[0])
            self.assertEqual(undone_count(machine), due, machine)

    def test_against_the_words(self):
        for machine in kinds_of_machines() + levelled_machines(count=80):
            self.assertEqual(undone_count(machine), undone_count_by_words(machine), machine)

    def test_wires_do_not_matter(self):
        for machine in kinds_of_machines():
            for wires in ((), all_wires(len(machine[0]))):
                self.assertEqual(undone_count((machine[0], wires)), undone_count(machine))

    def test_a_register_alone(self):
        for size, due in ((2, 1), (7, 6), (8, 4), (30, 8), (10 ** 30, 4 * 10 ** 29), (2 ** 99, 2 ** 98), (97, 96)):
            self.assertEqual(undone_count(((size,), ())), due)
            self.assertEqual(table_count(((size,), ())), 1)


class WhatHolds(unittest.TestCase):
    def test_the_one_divides_the_other(self):
        for machine in kinds_of_machines() + levelled_machines(count=80):
            self.assertEqual(undone_count(machine) % table_count(machine), 0)

    def test_a_wire_more_never_makes_it_less(self):
        random = Random(2)
        for machine in small_machines() + levelled_machines():
            wires = list(all_wires(len(machine[0])))
            random.shuffle(wires)
            for j, i in wires[:5]:
                without = (machine[0], tuple(wire for wire in machine[1] if wire != (j, i)))
                more = (machine[0], tuple(sorted(without[1] + ((j, i),))))
                self.assertGreaterEqual(table_count(more), table_count(without))
                same = step(machine, j, i) % least_factor(without, j, i) == 0
                self.assertIs(table_count(more) == table_count(without), same, (without, j, i))

    def test_machines_that_are_alike_have_the_same(self):
        for machine in kinds_of_machines() + levelled_machines():
            self.assertEqual(table_count(lean(machine)), table_count(machine))


class Calls(unittest.TestCase):
    def test_by_place_by_name_and_again(self):
        for machine in (MACHINE, MIXED, RING, WAIST):
            for function in (table_count, undone_count):
                told = deepcopy(machine)
                found = function(told)
                self.assertEqual((function(told), function(machine=told), told), (found, found, machine))
