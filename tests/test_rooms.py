import unittest
from math import prod
from random import Random

from narrowadds.machines import depth, primes_of
from narrowadds.rooms import mark, round_trip, rooms, spans, telling
from narrowadds.tables import both, still, table_of
from tests.examples import check_examples
from tests.machinery import (
    MACHINE, MIXED, RING, WAIST, all_wires, around, determinant_by_words, great_machines, levelled_machines, program_of,
    rooms_by_words, small_machines, some_wires, table_by_words, table_that_keeps_climbs, tables_done, trips_by_words,
)

EXAMPLES = """
    >>> from narrowadds.rooms import mark, rooms, round_trip, telling
    >>> machine = ((8, 4, 8), ((0, 1), (1, 0), (1, 2), (2, 0)))
    >>> round_trip(machine, 2, 0, 1), round_trip(machine, 2, 2, 0), round_trip(machine, 2, 1, 2)
    (1, 1, 1)
    >>> [rooms(machine, 2, t) for t in (0, 1, 2)], [telling(machine, 2, t) for t in (0, 1, 2, 9)]
    ([((0,), (1,), (2,)), ((0, 1, 2),), ((0, 1, 2),)], [((0,), (1,), (2,)), ((0, 1, 2),), (), ()])
    >>> waist, mixed = ((4, 2, 4), ((0, 1), (1, 0), (1, 2), (2, 1))), ((6, 4, 9), ((0, 1), (0, 2), (1, 0)))
    >>> round_trip(waist, 2, 0, 2), rooms(waist, 2, 0), rooms(waist, 2, 1), telling(waist, 2, 0), telling(waist, 2, 1)
    (2, ((0,), (1,), (2,)), ((0, 1, 2),), ((0,), (1,), (2,)), ())
    >>> round_trip(mixed, 3, 0, 2), rooms(mixed, 3, 5), rooms(mixed, 2, 0), rooms(mixed, 2, 1), telling(mixed, 2, 1), telling(mixed, 3, 1)
    (None, ((0,), (2,)), ((0,), (1,)), ((0, 1),), (), ((2,),))
    >>> plain = ((1, 0, 0), (0, 1, 0), (0, 0, 1))
    >>> turned, tripled = ((3, 2, 0), (1, 1, 0), (0, 0, 1)), ((3, 0, 0), (0, 1, 0), (0, 0, 1))
    >>> [mark(machine, table, 2, 1, (0, 1, 2)) for table in (plain, turned, tripled)], [mark(machine, tripled, 2, 0, (i,)) for i in (0, 1, 2)]
    ([1, 1, 3], [1, 1, 1])
    >>> mark(mixed, ((5, 0, 0), (2, 1, 0), (3, 0, 4)), 3, 1, (2,)), mark(mixed, ((5, 0, 0), (2, 1, 0), (3, 0, 4)), 3, 0, (0,)), mark(mixed, ((5, 0, 0), (2, 1, 0), (3, 0, 4)), 2, 0, (0,))
    (4, 2, 1)
"""


def machines():
    """Return machines of one register to six, of one prime and of several, whose depths are near and far."""
    random = Random(1)
    found = small_machines(count=50) + great_machines()
    for _ in range(60):
        many = random.randint(2, 6)
        depths = [random.randint(1, 5) for _ in range(many)]
        found.append((tuple(2 ** e for e in depths), some_wires(random, many)))
        found.append((tuple(2 ** e * 3 ** random.randint(0, 4) for e in depths), some_wires(random, many)))
    return found


def levels(machine, p, trips):
    """Return the levels at which rooms or what tells may change, those beside them, and some far beyond."""
    found = {0, 1, 2, 10 ** 6, 10 ** 399} | {trips[pair] + more for pair in trips for more in (-1, 0, 1)}
    found |= {depth(machine, p, i) + more for i in range(len(machine[0])) for more in (-1, 0, 1)}
    return sorted(t for t in found if t >= 0)


def all_telling(machine):
    """Return (p, t, room) of all telling rooms at levels up to 6, and at the last one that tells."""
    found = []
    for p in primes_of(machine):
        last = max(depth(machine, p, i) for i in range(len(machine[0]))) - 1
        for t in sorted({*range(min(last, 6) + 1), last}):
            found.extend((p, t, room) for room in telling(machine, p, t))
    return found


class Examples(unittest.TestCase):
    def test_examples_of_the_document(self):
        check_examples(self, EXAMPLES)


class RoundTrips(unittest.TestCase):
    def test_against_all_roads(self):
        for machine in machines():
            for p in primes_of(machine)[:3] + primes_of(machine)[-1:]:
                trips = trips_by_words(machine, p)
                for i, j in all_wires(len(machine[0])):
                    self.assertEqual(round_trip(machine, p, i, j), trips.get((i, j)))

    def test_one_way_alone(self):
        for wires in ((), ((0, 1),), ((1, 0),)):
            for i, j in ((0, 1), (1, 0)):
                self.assertIsNone(round_trip(((8, 8), wires), 2, i, j))
        self.assertEqual(round_trip(((8, 8), ((0, 1), (1, 0))), 2, 0, 1), 0)
        self.assertIsNone(round_trip(((8, 3), ((0, 1), (1, 0))), 2, 0, 1))


class Rooms(unittest.TestCase):
    def test_against_rows_of_registers(self):
        for machine in machines():
            for p in primes_of(machine)[:3] + primes_of(machine)[-1:]:
                trips = trips_by_words(machine, p)
                for t in levels(machine, p, trips):
                    due = rooms_by_words(machine, p, trips, t)
                    self.assertEqual(rooms(machine, p, t), due, (machine, p, t))
                    told = tuple(room for room in due if all(depth(machine, p, i) > t for i in room))
                    self.assertEqual(telling(machine, p, t), told)

    def test_a_register_alone(self):
        for size, e in ((2, 1), (8, 3), (2 ** 99, 99)):
            for t in (0, 1, 2, 3, 98, 99, 10 ** 30):
                self.assertEqual(rooms(((size,), ()), 2, t), ((0,),))
                self.assertEqual(telling(((size,), ()), 2, t), ((0,),) if t < e else ())

    def test_no_wire(self):
        machine = ((4, 3, 8, 9, 5, 2), ())
        self.assertEqual(rooms(machine, 2, 7), ((0,), (2,), (5,)))
        self.assertEqual([telling(machine, 2, t) for t in range(4)], [((0,), (2,), (5,)), ((0,), (2,)), ((2,),), ()])
        self.assertEqual((rooms(machine, 5, 0), telling(machine, 5, 0), telling(machine, 5, 1)), (((4,),), ((4,),), ()))

    def test_all_in_one(self):
        for many in range(1, 7):
            for wires in (around(many), all_wires(many)):
                machine = ((10 ** 30,) * many, wires)
                for t in (0, 1, 29):
                    self.assertEqual(rooms(machine, 5, t), (tuple(range(many)),))
                    self.assertEqual(telling(machine, 5, t), (tuple(range(many)),))
                self.assertEqual(telling(machine, 5, 30), ())

    def test_a_row_of_registers_joins_more_than_its_ends_do(self):
        machine = ((16, 8, 4, 2, 4, 8), tuple(sorted([(i, i + 1) for i in range(5)] + [(i + 1, i) for i in range(5)])))
        self.assertEqual(rooms(machine, 2, 0), ((0,), (1,), (2,), (3,), (4,), (5,)))
        self.assertEqual(rooms(machine, 2, 1), ((0, 1, 2, 3, 4, 5),))
        self.assertEqual(round_trip(machine, 2, 0, 5), 5)

    def test_the_order_of_rooms(self):
        machine = ((4, 4, 4, 4, 4, 4), ((0, 5), (1, 4), (4, 1), (5, 0)))
        self.assertEqual(rooms(machine, 2, 0), ((0, 5), (1, 4), (2,), (3,)))


class Levels(unittest.TestCase):
    def test_all_depths_of_a_room_of_level_0_are_the_same(self):
        for machine in machines():
            for p in primes_of(machine):
                for room in rooms(machine, p, 0):
                    self.assertEqual(len({depth(machine, p, i) for i in room}), 1)

    def test_each_room_lies_within_one_of_the_next_level(self):
        for machine in machines():
            for p in primes_of(machine):
                for t in range(12):
                    below, above = rooms(machine, p, t), rooms(machine, p, t + 1)
                    told, still_told = telling(machine, p, t), telling(machine, p, t + 1)
                    for room in below:
                        around_it = [one for one in above if set(room) <= set(one)]
                        self.assertEqual(len(around_it), 1)
                        if around_it[0] in still_told:
                            self.assertIn(room, told)


class Spans(unittest.TestCase):
    def test_they_are_the_telling_rooms_level_by_level(self):
        for machine in machines() + levelled_machines(count=60):
            for p in primes_of(machine):
                found = spans(machine, p)
                self.assertEqual([first for _, first, _ in found], sorted(first for _, first, _ in found))
                deepest = max(depth(machine, p, i) for i in range(len(machine[0])))
                for t in [t for t in range(deepest + 2) if t < 12 or t % 9 == 0 or t > deepest - 3]:
                    told = sorted(room for room, first, last in found if first <= t <= last)
                    self.assertEqual(tuple(told), telling(machine, p, t), (machine, p, t))


class Marks(unittest.TestCase):
    def test_they_are_the_determinants(self):
        random = Random(2)
        for machine in machines():
            for table in (still(machine), table_by_words(random, machine)):
                for p, t, room in all_telling(machine):
                    due = determinant_by_words([[table[i][j] for j in room] for i in room]) % p ** (t + 1)
                    found = mark(machine, table, p, t, room)
                    self.assertEqual(found, due)
                    self.assertIs(type(found), int)

    def test_rooms_of_one_register_to_six(self):
        random = Random(3)
        for many in range(1, 7):
            machine, room = ((2 ** 99,) * many, around(many)), tuple(range(many))
            table = table_by_words(random, machine)
            full = determinant_by_words(table)
            for t in (0, 1, 2, 50, 98):
                self.assertEqual(mark(machine, table, 2, t, room), full % 2 ** (t + 1))

    def test_tables_of_programs_have_the_mark_1(self):
        random = Random(4)
        for machine in machines():
            for table in (still(machine), table_of(machine, program_of(random, machine, 40))):
                for p, t, room in all_telling(machine):
                    self.assertEqual(mark(machine, table, p, t, room), 1)

    def test_all_tables_of_small_machines(self):
        for machine in (WAIST, RING, MIXED, ((4, 4), all_wires(2)), ((8, 4), all_wires(2)), ((9, 3, 9), around(3))):
            told = all_telling(machine)
            for table in tables_done(machine):
                for p, t, room in told:
                    self.assertEqual(mark(machine, table, p, t, room), 1)

    def test_marks_of_tables_one_behind_the_other(self):
        random = Random(5)
        for machine in machines():
            one, other = [table_that_keeps_climbs(random, machine) for _ in range(2)]
            table = both(machine, one, other)
            for p, t, room in all_telling(machine):
                due = mark(machine, one, p, t, room) * mark(machine, other, p, t, room) % p ** (t + 1)
                self.assertEqual(mark(machine, table, p, t, room), due, (machine, one, other, p, t, room))

    def test_marks_of_the_rooms_in_a_room(self):
        random = Random(6)
        for machine in machines():
            table = table_that_keeps_climbs(random, machine)
            for p, t, room in all_telling(machine):
                for s in range(min(t, 6)):
                    parts = [part for part in telling(machine, p, s) if set(part) <= set(room)]
                    self.assertEqual(sorted(i for part in parts for i in part), list(room))
                    due = prod(mark(machine, table, p, s, part) for part in parts) % p ** (s + 1)
                    self.assertEqual(mark(machine, table, p, t, room) % p ** (s + 1), due)

    def test_integers_from_nought_below_the_power(self):
        machine = ((8, 8), ((0, 1), (1, 0)))
        for table, dues in ((((1, 3), (5, 0)), (1, 1, 1)), (((0, 1), (1, 0)), (1, 3, 7)), (((2, 1), (4, 2)), (0, 0, 0))):
            self.assertEqual(tuple(mark(machine, table, 2, t, (0, 1)) for t in range(3)), dues)


class Calls(unittest.TestCase):
    def test_equal_calls_get_equal_results(self):
        for machine in (MACHINE, WAIST, MIXED):
            for t in range(3):
                self.assertEqual(repr(rooms(machine, 2, t)), repr(rooms(machine, 2, t)))
                self.assertEqual(repr(telling(machine, 2, t)), repr(telling(machine, 2, t)))
