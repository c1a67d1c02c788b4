import unittest
from copy import deepcopy
from itertools import product
from math import prod

from narrowadds.bounds import MAX_PRIME
from narrowadds.machines import PRIMES, contents_error, depth, machine_error, primes_of, step
from tests.examples import check_examples
from tests.values import nested, other_values

MACHINE = ((8, 4, 8), ((0, 1), (1, 0), (1, 2), (2, 0)))
MIXED = ((12, 18, 5), ((0, 1), (1, 0)))
EXAMPLES = """
    >>> from narrowadds.machines import contents_error, depth, machine_error, primes_of, step
    >>> machine, mixed = ((8, 4, 8), ((0, 1), (1, 0), (1, 2), (2, 0))), ((12, 18, 5), ((0, 1), (1, 0)))
    >>> [machine_error(value) for value in (machine, mixed, ((2,), ()), ((10 ** 30,), ()), ((8, 4), [(0, 1)]), (8, 4), ((), ()), ((2,) * 7, ()))]
    [None, None, None, None, 'form', 'form', 'form', 'form']
    >>> [machine_error((sizes, ())) for sizes in ((8, 1), (True, 8), (8, 101), (2 ** 100,), ("8",))]
    [('size', 1), ('size', 0), ('size', 1), ('size', 0), ('size', 0)]
    >>> [machine_error(((8, 4), wires)) for wires in (((0, 1), (1, 0)), ((1, 0), (0, 1)), ((0, 1), (0, 1)), ((0, 2),), ((1, 1),), ((0, 1), [1, 0]), ((False, 1),))]
    [None, ('order', 1), ('order', 1), ('wire', 0), ('wire', 0), ('wire', 1), ('wire', 0)]
    >>> primes_of(machine), primes_of(mixed), depth(machine, 2, 0), depth(machine, 2, 1), depth(mixed, 3, 1), depth(mixed, 5, 0)
    ((2,), (2, 3, 5), 3, 2, 2, 0)
    >>> step(machine, 0, 1), step(machine, 1, 0), step(machine, 0, 2), step(mixed, 0, 1), step(mixed, 1, 0), step(mixed, 2, 0)
    (1, 2, 1, 3, 2, 12)
    >>> [contents_error(machine, value) for value in ((7, 3, 0), (7, 4, 0), (7, 3), [7, 3, 0], (7, True, 0), (-1, 4, 0), None)]
    [None, ('rest', 1), 'form', 'form', ('rest', 1), ('rest', 0), 'form']
"""
ALL_PRIMES = [p for p in range(2, 98) if all(p % d for d in range(2, p))]
# Sizes small and great, with many primes and with one, that have primes in common and that have none.
SIZES = [
    2, 3, 4, 5, 6, 8, 9, 12, 18, 30, 36, 49, 64, 97, 97 * 97, 2 ** 99, 3 ** 62, 5 ** 42, 10 ** 30, 6 ** 38,
    97 ** 15, 89 ** 15, prod(ALL_PRIMES[:20]), 2 ** 40 * 3 ** 20, 2 ** 20 * 3 ** 30, 2 ** 10 * 5 ** 10 * 97 ** 8,
]


def greatest_primes(end):
    """Return, for each number below end, its greatest prime (0 for 0 and 1)."""
    found = [0] * end
    for p in range(2, end):
        if found[p] == 0:
            for many in range(p, end, p):
                found[many] = p
    return found


def with_sizes(*sizes):
    return (sizes, ())


class Examples(unittest.TestCase):
    def test_examples_of_the_document(self):
        check_examples(self, EXAMPLES)


class Form(unittest.TestCase):
    def test_values_of_other_kinds(self):
        for value in other_values():
            self.assertEqual(machine_error(value), "form", repr(value)[:80])

    def test_as_many_registers_as_may_be(self):
        for many in range(1, 7):
            self.assertIsNone(machine_error(((2,) * many, ())))
        for many in (0, 7, 8, 1000):
            self.assertEqual(machine_error(((2,) * many, ())), "form")

    def test_lists_are_no_tuples(self):
        for value in ([(8, 4), ()], ([8, 4], ()), ((8, 4), []), [[8, 4], []], ((8, 4), [(0, 1)])):
            self.assertEqual(machine_error(value), "form")

    def test_pairs_have_two_items(self):
        for value in (((8, 4),), ((8, 4), (), ()), ((8, 4), (), None), (((8, 4), ()),)):
            self.assertEqual(machine_error(value), "form")

    def test_strings_and_dicts_are_no_tuples(self):
        for value in (("84", ()), ((8, 4), ""), ({8: 4}, ()), ((8, 4), {}), {0: (8,), 1: ()}, "ab"):
            self.assertEqual(machine_error(value), "form")

    def test_pairs_of_tuples_have_the_form_whatever_stands_in_them(self):
        self.assertEqual(machine_error((((8, 4), ()), ())), ("size", 0))
        self.assertEqual(machine_error((nested(18, lambda part: (part, ())), ())), ("size", 0))
        self.assertEqual(machine_error(((8, 4), ((), ()))), ("wire", 0))

    def test_form_goes_ahead_of_all_else(self):
        for value in (((1, 0), [(5, 5)]), ((1,) * 7, ((0, 0),)), ((), ((0, 1),)), ((True,), None), ((8, 1), (), 0)):
            self.assertEqual(machine_error(value), "form")


class Sizes(unittest.TestCase):
    def test_small_numbers(self):
        greatest = greatest_primes(12000)
        for size, prime in enumerate(greatest):
            due = None if size >= 2 and prime <= 97 else ("size", 0)
            self.assertEqual(machine_error(with_sizes(size)), due, size)

    def test_great_ones_that_are_sizes(self):
        for size in SIZES:
            self.assertIsNone(machine_error(with_sizes(size)), size)

    def test_each_prime_is_a_size(self):
        for p in ALL_PRIMES:
            self.assertIsNone(machine_error(with_sizes(p, p * p, 2 * p)), p)

    def test_primes_that_are_too_great(self):
        great = (101, 103, 97 * 97 * 101, 2 * 101, 103 * 10 ** 27, 101 * 101, 101 ** 14, 10 ** 9 + 7, 113, 127, 10007)
        for size in great:
            self.assertEqual(machine_error(with_sizes(size)), ("size", 0), size)

    def test_the_greatest_size(self):
        self.assertIsNone(machine_error(with_sizes(10 ** 30, 10 ** 30)))
        beyond = (10 ** 30 + 1, 2 ** 100, 3 * 10 ** 30, 10 ** 31, 2 ** 1300, 10 ** 399, 5 ** 43, 97 ** 16)
        for size in beyond:
            self.assertGreater(size, 10 ** 30)
            self.assertEqual(machine_error(with_sizes(8, size)), ("size", 1), size)

    def test_no_number_below_two(self):
        for size in (1, 0, -1, -2, -8, -(10 ** 399)):
            self.assertEqual(machine_error(with_sizes(2, 2, size)), ("size", 2), size)

    def test_what_is_no_integer(self):
        for size in (True, False, None, "8", "", (8,), [8], {}, ()):
            for at in range(6):
                sizes = (8,) * at + (size,) + (8,) * (5 - at)
                self.assertEqual(machine_error((sizes, ())), ("size", at))

    def test_the_first_one_is_told(self):
        self.assertEqual(machine_error(((8, 1, 101), ())), ("size", 1))
        self.assertEqual(machine_error(((101, True, 0), ())), ("size", 0))

    def test_sizes_go_ahead_of_wires(self):
        for wires in (((0, 0),), ((0, 9),), ((1, 0), (0, 1)), (None,), ([0, 1], (1, 0), (0, 1))):
            self.assertEqual(machine_error(((8, 4, 1), wires)), ("size", 2))
            self.assertEqual(machine_error(((True, 4, 1), wires)), ("size", 0))


class Wires(unittest.TestCase):
    def test_all_pairs_of_registers(self):
        for many in range(1, 7):
            for j, i in product(range(-2, 8), repeat=2):
                right = 0 <= j < many and 0 <= i < many and j != i
                due = None if right else ("wire", 0)
                self.assertEqual(machine_error(((8,) * many, ((j, i),))), due, (many, j, i))

    def test_all_wires_at_once(self):
        for many in range(1, 7):
            wires = tuple((j, i) for j in range(many) for i in range(many) if j != i)
            self.assertIsNone(machine_error(((10 ** 30,) * many, wires)))

    def test_what_is_no_wire(self):
        wrong = [
            None, True, 0, 1, "01", "", [0, 1], (0,), (), (0, 1, 2), (0, 1, 0), ((0, 1),), (False, 1), (0, True),
            (True, False), (0, None), ("0", "1"), (0, (1,)), (0, 3), (3, 0), (-1, 0), (0, -1), (2, 2), (0, 10 ** 399),
            {0: 1}, {0: 1, 1: 0}, (0, [1]), [],
        ]
        for wire in wrong:
            self.assertEqual(machine_error(((8, 4, 8), (wire,))), ("wire", 0), repr(wire))
            self.assertEqual(machine_error(((8, 4, 8), ((0, 1), wire, (2, 1)))), ("wire", 1), repr(wire))

    def test_the_first_one_is_told(self):
        self.assertEqual(machine_error(((8, 4), ((0, 1), (0, 0), (9, 9)))), ("wire", 1))

    def test_a_machine_of_one_register_has_no_wires(self):
        for wire in ((0, 0), (0, 1), (1, 0)):
            self.assertEqual(machine_error(((8,), (wire,))), ("wire", 0))


class Order(unittest.TestCase):
    def test_rows_of_three_wires(self):
        all_wires = [(j, i) for j in range(3) for i in range(3) if j != i]
        for wires in product(all_wires, repeat=3):
            due = None
            if wires[1] <= wires[0]:
                due = ("order", 1)
            elif wires[2] <= wires[1]:
                due = ("order", 2)
            self.assertEqual(machine_error(((8, 4, 8), wires)), due, wires)

    def test_one_wire_twice(self):
        self.assertEqual(machine_error(((8, 4), ((0, 1), (0, 1)))), ("order", 1))
        self.assertEqual(machine_error(((8, 4), ((0, 1), (1, 0), (1, 0)))), ("order", 2))

    def test_just_the_one_ahead_counts(self):
        self.assertEqual(machine_error(((8, 4, 8), ((1, 0), (0, 1), (0, 2)))), ("order", 1))
        self.assertEqual(machine_error(((8, 4, 8), ((0, 2), (2, 1), (0, 1)))), ("order", 2))

    def test_all_wires_go_ahead_of_their_order(self):
        for wrong in ((5, 5), (0, 2), (1, 1), [0, 1], None, (True, 0)):
            self.assertEqual(machine_error(((8, 4), ((1, 0), (0, 1), wrong))), ("wire", 2))

    def test_very_many_wires(self):
        self.assertEqual(machine_error(((8, 4), ((0, 1),) * 1300)), ("order", 1))


class Primes(unittest.TestCase):
    def test_the_row_of_primes(self):
        self.assertEqual(list(PRIMES), ALL_PRIMES)
        self.assertEqual(PRIMES[-1], MAX_PRIME)

    def test_small_sizes(self):
        for size in range(2, 98):
            due = tuple(p for p in ALL_PRIMES if size % p == 0)
            self.assertEqual(primes_of(with_sizes(size)), due)

    def test_each_prime_once_and_ascending(self):
        self.assertEqual(primes_of(with_sizes(97, 5, 2, 10, 97 ** 15, 9)), (2, 3, 5, 97))
        self.assertEqual(primes_of(with_sizes(10 ** 30)), (2, 5))
        self.assertEqual(primes_of(with_sizes(7, 7, 7)), (7,))

    def test_all_primes_of_one_machine(self):
        sizes = [prod(ALL_PRIMES[at::2]) for at in range(2)]
        self.assertEqual(primes_of(with_sizes(*sizes)), tuple(ALL_PRIMES))

    def test_wires_do_not_matter(self):
        self.assertEqual(primes_of(((6, 35), ())), primes_of(((6, 35), ((0, 1), (1, 0)))))

    def test_the_answer_is_a_tuple(self):
        self.assertIs(type(primes_of(MACHINE)), tuple)


class Depths(unittest.TestCase):
    def test_depths_make_up_the_sizes(self):
        for at in range(0, len(SIZES) - 5):
            machine = with_sizes(*SIZES[at:at + 6])
            primes = primes_of(machine)
            for i, size in enumerate(machine[0]):
                depths = [depth(machine, p, i) for p in primes]
                self.assertEqual(prod([p ** e for p, e in zip(primes, depths)]), size)
                self.assertEqual({type(e) for e in depths}, {int})

    def test_depths_that_are_nought(self):
        machine = with_sizes(8, 3, 10 ** 30, 97)
        self.assertEqual([depth(machine, 3, i) for i in range(4)], [0, 1, 0, 0])
        self.assertEqual([depth(machine, 5, i) for i in range(4)], [0, 0, 30, 0])
        self.assertEqual([depth(machine, 97, i) for i in range(4)], [0, 0, 0, 1])

    def test_great_depths(self):
        machine = with_sizes(2 ** 99, 3 ** 62, 2 ** 20 * 3 ** 30)
        self.assertEqual([depth(machine, 2, i) for i in range(3)], [99, 0, 20])
        self.assertEqual([depth(machine, 3, i) for i in range(3)], [0, 62, 30])


class Steps(unittest.TestCase):
    def test_it_is_the_least_that_makes_a_multiple(self):
        small = [size for size in range(2, 61)]
        for from_size, to_size in product(small, repeat=2):
            due = next(c for c in range(1, to_size + 1) if c * from_size % to_size == 0)
            self.assertEqual(step(with_sizes(from_size, to_size), 0, 1), due)

    def test_all_with_this_property_are_its_multiples(self):
        for from_size, to_size in product(range(2, 25), repeat=2):
            least = step(with_sizes(from_size, to_size), 0, 1)
            for c in range(-60, 61):
                self.assertEqual(c * from_size % to_size == 0, c % least == 0)

    def test_each_prime_rises(self):
        for from_size, to_size in product(SIZES, repeat=2):
            machine = with_sizes(from_size, to_size)
            due = prod([p ** max(0, depth(machine, p, 1) - depth(machine, p, 0)) for p in primes_of(machine)])
            self.assertEqual(step(machine, 0, 1), due)

    def test_one_exactly_if_the_one_size_divides_the_other(self):
        for from_size, to_size in product(SIZES, repeat=2):
            self.assertEqual(step(with_sizes(from_size, to_size), 0, 1) == 1, from_size % to_size == 0)

    def test_the_whole_size_exactly_if_nothing_is_in_common(self):
        for from_size, to_size in product(SIZES, repeat=2):
            machine = with_sizes(from_size, to_size)
            common = [p for p in primes_of(machine) if from_size % p == 0 and to_size % p == 0]
            self.assertEqual(step(machine, 0, 1) == to_size, not common)

    def test_two_steps_are_a_multiple_of_the_one(self):
        for sizes in product(SIZES, repeat=3):
            machine = with_sizes(*sizes)
            self.assertEqual(step(machine, 0, 1) * step(machine, 1, 2) % step(machine, 0, 2), 0)

    def test_wires_do_not_matter(self):
        for wires in ((), ((0, 1),), ((1, 0),), ((0, 1), (1, 0))):
            machine = ((12, 18), wires)
            self.assertEqual((step(machine, 0, 1), step(machine, 1, 0)), (3, 2))

    def test_the_one_that_gives_stands_first(self):
        machine = with_sizes(2, 3, 4, 8, 9, 10 ** 30)
        self.assertEqual([step(machine, j, 5) for j in range(5)],
                         [10 ** 30 // 2, 10 ** 30, 10 ** 30 // 4, 10 ** 30 // 8, 10 ** 30])
        self.assertEqual([step(machine, 5, i) for i in range(5)], [1, 3, 1, 1, 9])


class Contents(unittest.TestCase):
    def test_all_small_rests(self):
        machine = with_sizes(3, 2)
        for one, other in product(range(-3, 6), repeat=2):
            due = None
            if not 0 <= one < 3:
                due = ("rest", 0)
            elif not 0 <= other < 2:
                due = ("rest", 1)
            self.assertEqual(contents_error(machine, (one, other)), due)

    def test_the_greatest_and_the_least(self):
        machine = with_sizes(10 ** 30, 2, 97, 8, 4, 2 ** 99)
        greatest = tuple([size - 1 for size in machine[0]])
        self.assertIsNone(contents_error(machine, greatest))
        self.assertIsNone(contents_error(machine, (0,) * 6))
        for i in range(6):
            self.assertEqual(contents_error(machine, greatest[:i] + machine[0][i:]), ("rest", i))
            self.assertEqual(contents_error(machine, (0,) * i + (-1,) * (6 - i)), ("rest", i))

    def test_too_short_and_too_long(self):
        for value in ((), (7,), (7, 3), (7, 3, 0, 0), (0,) * 3999):
            self.assertEqual(contents_error(MACHINE, value), "form")

    def test_values_of_other_kinds(self):
        for value in other_values():
            self.assertEqual(contents_error(with_sizes(2, 2, 2, 2), value), "form", repr(value)[:80])
        for value in ([7, 3, 0], "730", {0: 7, 1: 3, 2: 0}, 730, None, True):
            self.assertEqual(contents_error(MACHINE, value), "form")

    def test_form_goes_ahead_of_rests(self):
        for value in ((8, 4), (-1, -1, -1, -1), [8, True, 0]):
            self.assertEqual(contents_error(MACHINE, value), "form")

    def test_what_is_no_integer(self):
        for wrong in (True, False, None, "0", "", (0,), [0], {}, 10 ** 399, -(10 ** 399)):
            for i in range(3):
                value = (0,) * i + (wrong,) + (0,) * (2 - i)
                self.assertEqual(contents_error(MACHINE, value), ("rest", i))

    def test_the_first_one_is_told(self):
        self.assertEqual(contents_error(MACHINE, (7, 4, 8)), ("rest", 1))
        self.assertEqual(contents_error(MACHINE, (False, 4, -1)), ("rest", 0))

    def test_one_register(self):
        self.assertIsNone(contents_error(with_sizes(2), (1,)))
        self.assertEqual(contents_error(with_sizes(2), (2,)), ("rest", 0))
        self.assertEqual(contents_error(with_sizes(2), 1), "form")


class Calls(unittest.TestCase):
    def test_nothing_that_is_handed_in_is_changed(self):
        values = [[[8, 4], [(0, 1)]], ([8, 4], ()), ((8, [4]), ([0, 1],)), ((8, 4), ([0, 1], {0: [1]})), {0: [8]}]
        for value in values:
            same = deepcopy(value)
            machine_error(value)
            contents_error(MACHINE, value)
            self.assertEqual(repr(value), repr(same))
            self.assertEqual(value, same)

    def test_equal_calls_get_equal_results(self):
        for value in other_values() + [MACHINE, MIXED, ((8, 1), ()), ((8, 4), ((0, 0),))]:
            self.assertEqual(repr(machine_error(value)), repr(machine_error(value)))
            self.assertEqual(repr(contents_error(MIXED, value)), repr(contents_error(MIXED, value)))

    def test_true_is_not_one(self):
        self.assertIsNone(machine_error(((8, 4), ((0, 1),))))
        self.assertEqual(machine_error(((8, 4), ((0, True),))), ("wire", 0))
        self.assertIsNone(contents_error(MACHINE, (1, 0, 0)))
        self.assertEqual(contents_error(MACHINE, (1, False, 0)), ("rest", 1))
        self.assertEqual(contents_error(MACHINE, (True, 0, 0)), ("rest", 0))
