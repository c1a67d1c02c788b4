import unittest
from random import Random

from narrowadds.machines import depth, primes_of, step
from narrowadds.roads import climb, least_factor, least_factors, rise, road
from tests.examples import check_examples
from tests.machinery import (
    MACHINE, MIXED, NARROW, RING, WAIST, all_wires, around, climb_by_words, great_machines, least_factor_by_words,
    roads_by_words, small_machines, some_wires, still_by_words, tables_done, with_entry,
)

EXAMPLES = """
    >>> from narrowadds.roads import climb, least_factor, rise, road
    >>> machine = ((8, 4, 8), ((0, 1), (1, 0), (1, 2), (2, 0)))
    >>> rise(machine, 2, 0, 1), rise(machine, 2, 1, 2), rise(machine, 2, 0, 2)
    (0, 1, 0)
    >>> [climb(machine, 2, j, i) for j, i in ((0, 1), (0, 2), (1, 0), (1, 2), (2, 0), (2, 1))], road(machine, 2, 0, 2), road(machine, 2, 2, 1)
    ([0, 1, 1, 1, 0, 0], (0, 1, 2), (2, 0, 1))
    >>> road(machine, 2, 1, 0) in ((1, 0), (1, 2, 0))
    True
    >>> narrow, mixed = ((8, 2, 8), ((0, 1), (1, 2))), ((6, 4, 9), ((0, 1), (0, 2), (1, 0)))
    >>> climb(narrow, 2, 0, 2), climb(narrow, 2, 2, 0), climb(mixed, 2, 0, 1), climb(mixed, 3, 0, 2), climb(mixed, 2, 0, 2), climb(mixed, 3, 1, 0)
    (2, None, 1, 1, None, None)
    >>> [least_factor(machine, j, i) for j, i in ((0, 1), (0, 2), (1, 0), (1, 2), (2, 0), (2, 1))], least_factor(narrow, 0, 2), least_factor(narrow, 2, 0)
    ([1, 2, 2, 2, 1, 1], 4, 8)
    >>> [least_factor(mixed, j, i) for j, i in ((0, 1), (0, 2), (1, 0), (1, 2), (2, 0))]
    [2, 3, 3, 9, 6]
"""
# Machines few enough of whose tables are done by programs to go through them all.
FEW_DONE = [
    NARROW, WAIST, RING, ((6, 4), ((0, 1), (1, 0))), ((4, 4), ((0, 1), (1, 0))), ((5, 5), ((0, 1), (1, 0))),
    ((4, 2, 4), ((0, 1), (1, 2))), ((8, 4), ((0, 1), (1, 0))), ((9, 3, 9), ((0, 1), (1, 2), (2, 0))),
    ((6, 4, 9), ((0, 1), (0, 2), (1, 0))), ((2, 2, 2, 2), ((0, 1), (1, 2), (2, 3))), ((12, 18), ((0, 1), (1, 0))),
    ((4, 2, 2, 4), ((0, 1), (1, 2), (2, 3))), ((2, 4, 8), ((0, 1), (1, 2))), ((8, 4, 2), ((0, 1), (1, 2))), ((5, 7), ()),
]


def machines():
    """Return machines of one register to six, with no wire, some and all, of one prime and of several."""
    random = Random(1)
    found = small_machines() + great_machines()
    for _ in range(40):
        sizes = tuple(random.choice((2, 4, 8, 64, 2 ** 99, 6, 12, 36, 9, 162, 10 ** 30)) for _ in range(6))
        found.append((sizes, some_wires(random, 6)))
    return found


def pairs(machine):
    return all_wires(len(machine[0]))


class Examples(unittest.TestCase):
    def test_examples_of_the_document(self):
        check_examples(self, EXAMPLES)


class Rises(unittest.TestCase):
    def test_they_are_what_the_depths_tell(self):
        for machine in machines():
            for p in primes_of(machine):
                for j, i in pairs(machine):
                    due = max(0, depth(machine, p, i) - depth(machine, p, j))
                    self.assertEqual(rise(machine, p, j, i), due)
                    self.assertEqual(rise((machine[0], ()), p, j, i), due)

    def test_all_of_it_from_a_register_without_the_prime(self):
        machine = ((3, 2 ** 99, 10 ** 30), ())
        self.assertEqual([rise(machine, 2, 0, 1), rise(machine, 2, 1, 0), rise(machine, 2, 2, 1), rise(machine, 2, 0, 2)],
                         [99, 0, 69, 30])
        self.assertEqual([rise(machine, 5, 0, 1), rise(machine, 5, 0, 2), rise(machine, 5, 2, 1)], [0, 30, 0])


class Roads(unittest.TestCase):
    def test_against_all_roads_gone_through(self):
        for machine in machines():
            for p in primes_of(machine)[:4] + primes_of(machine)[-1:]:
                for j, i in pairs(machine):
                    roads = dict(roads_by_words(machine, p, j, i))
                    due = min(roads.values(), default=None)
                    self.assertEqual(climb(machine, p, j, i), due, (machine, p, j, i))
                    found = road(machine, p, j, i)
                    if due is None:
                        self.assertIsNone(found)
                    else:
                        self.assertEqual(roads[found], due)
                        self.assertIs(type(found), tuple)

    def test_no_wire_no_road(self):
        for sizes in ((8, 4, 8), (10 ** 30,) * 6):
            for j, i in all_wires(len(sizes)):
                self.assertEqual((climb((sizes, ()), 2, j, i), road((sizes, ()), 2, j, i)), (None, None))

    def test_long_roads(self):
        for many in range(2, 7):
            machine = ((10 ** 30,) * many, around(many))
            for j, i in all_wires(many):
                way = tuple((j + k) % many for k in range((i - j) % many + 1))
                self.assertEqual((climb(machine, 5, j, i), road(machine, 5, j, i)), (0, way))

    def test_up_and_down(self):
        machine = ((2 ** 9, 2 ** 4, 2 ** 7, 2, 2 ** 9, 2 ** 3), around(6))
        self.assertEqual(climb(machine, 2, 0, 5), 3 + 8)
        self.assertEqual(climb(machine, 2, 5, 4), 6 + 3 + 8)
        self.assertEqual(climb(machine, 2, 1, 0), 3 + 8 + 6)

    def test_the_longer_road_may_climb_less(self):
        machine = ((8, 2, 8, 8, 8), ((0, 1), (0, 3), (1, 2), (3, 4), (4, 2)))
        self.assertEqual((climb(machine, 2, 0, 2), road(machine, 2, 0, 2)), (0, (0, 3, 4, 2)))

    def test_each_prime_has_its_own(self):
        machine = ((36, 4, 9, 36), ((0, 1), (0, 2), (1, 3), (2, 3)))
        self.assertEqual((road(machine, 2, 0, 3), road(machine, 3, 0, 3)), ((0, 1, 3), (0, 2, 3)))
        self.assertEqual((climb(machine, 2, 0, 3), climb(machine, 3, 0, 3)), (0, 0))

    def test_a_register_without_the_prime_bars_the_way(self):
        machine = ((8, 3, 8), ((0, 1), (1, 2)))
        self.assertEqual((climb(machine, 2, 0, 2), climb(machine, 2, 0, 1), climb(machine, 2, 1, 2)), (None,) * 3)
        self.assertEqual((climb(machine, 3, 0, 2), road(machine, 3, 0, 1)), (None, None))


class LeastFactors(unittest.TestCase):
    def test_they_are_what_all_roads_tell(self):
        for machine in machines():
            found = least_factors(machine)
            self.assertEqual(sorted(found), list(pairs(machine)))
            for j, i in pairs(machine):
                due = least_factor_by_words(machine, j, i)
                self.assertEqual((least_factor(machine, j, i), found[j, i]), (due, due))

    def test_the_size_where_there_is_no_road(self):
        for sizes in ((8, 4), (10 ** 30, 97), (12, 18)):
            self.assertEqual(least_factor((sizes, ()), 0, 1), sizes[1])
            self.assertEqual(least_factor((sizes, ((1, 0),)), 0, 1), sizes[1])

    def test_never_more_than_the_size(self):
        machine = ((8, 2, 8, 2, 8), ((0, 1), (1, 2), (2, 3), (3, 4)))
        self.assertEqual((climb(machine, 2, 0, 4), least_factor(machine, 0, 4)), (4, 8))

    def test_the_step_where_there_is_a_wire(self):
        for machine in machines():
            for j, i in pairs(machine):
                factor = least_factor(machine, j, i)
                self.assertEqual(factor % step(machine, j, i), 0)
                self.assertEqual(machine[0][i] % factor, 0)
                if (j, i) in machine[1]:
                    self.assertEqual(factor, step(machine, j, i))

    def test_against_all_tables_that_programs_do(self):
        for machine in FEW_DONE:
            tables = tables_done(machine)
            plain = still_by_words(machine)
            for j, i in pairs(machine):
                size = machine[0][i]
                added = [c for c in range(size) if with_entry(plain, i, j, c) in tables]
                factor = least_factor(machine, j, i)
                self.assertEqual(added, list(range(0, size, factor)), (machine, j, i))
                self.assertEqual({table[i][j] % factor for table in tables}, {0})


class WhatHolds(unittest.TestCase):
    def test_roads_one_behind_the_other(self):
        for machine in machines():
            for p in primes_of(machine)[:3]:
                climbs = {pair: climb(machine, p, *pair) for pair in pairs(machine)}
                for j, k in pairs(machine):
                    for i in range(len(machine[0])):
                        if i not in (j, k) and climbs[j, k] is not None and climbs[k, i] is not None:
                            self.assertLessEqual(climbs[j, i], climbs[j, k] + climbs[k, i])

    def test_a_climb_is_at_least_the_rise(self):
        for machine in machines():
            for p in primes_of(machine)[:3]:
                for j, i in pairs(machine):
                    climbed = climb(machine, p, j, i)
                    if climbed is not None:
                        self.assertGreaterEqual(climbed, rise(machine, p, j, i))
                        self.assertEqual(climb_by_words(machine, p, road(machine, p, j, i)), climbed)

    def test_with_more_wires_nothing_is_greater(self):
        for sizes, wires in small_machines(count=25) + great_machines()[::7]:
            for wire in wires:
                fewer = (sizes, tuple(kept for kept in wires if kept != wire))
                for j, i in all_wires(len(sizes)):
                    self.assertEqual(least_factor(fewer, j, i) % least_factor((sizes, wires), j, i), 0)


class Calls(unittest.TestCase):
    def test_equal_calls_get_equal_results(self):
        for machine in (MACHINE, MIXED, NARROW, RING):
            for j, i in pairs(machine):
                self.assertEqual(road(machine, 2, j, i), road(machine, 2, j, i))
                self.assertEqual(repr(least_factor(machine, j, i)), repr(least_factor(machine, j, i)))
