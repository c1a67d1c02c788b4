import unittest
from copy import deepcopy
from itertools import product
from math import prod
from random import Random

from narrowadds.errors import Unfit
from narrowadds.machines import depth, primes_of, step
from narrowadds.programs import backward, run
from narrowadds.tables import (
    both, can_be_undone, deed_table, moved, power, still, table_error, table_of, undone,
)
from tests.examples import check_examples
from tests.machinery import (
    MACHINE, all_contents, all_tables, all_wires, contents_behind, contents_of, deed_of, determinant_by_words,
    great_machines, led_by, program_of, small_machines, still_by_words, table_behind, table_by_words, tables_done,
    with_entry,
)
from tests.values import nested, other_values

EXAMPLES = """
    >>> from narrowadds.tables import both, can_be_undone, deed_table, moved, power, still, table_error, table_of, undone
    >>> machine = ((8, 4, 8), ((0, 1), (1, 0), (1, 2), (2, 0)))
    >>> turned = ((7, 2, 0), (3, 1, 0), (0, 0, 1))
    >>> [table_error(machine, value) for value in (turned, turned[:2], [turned], ((7, 2), (3, 1), (0, 0)), ((8, 2, 0), (3, 1, 0), (0, 0, 1)), ((7, 1, 0), (3, 4, 0), (0, 0, 1)), ((7, 2, 0), (3, 1, True), (0, 0, 1)))]
    [None, 'form', 'form', 'form', ('entry', 0, 0), ('entry', 0, 1), ('entry', 1, 2)]
    >>> still(machine), deed_table(machine, (0, 1, 3)), deed_table(machine, (0, 1, -1)), deed_table(machine, (1, 0, 10))
    (((1, 0, 0), (0, 1, 0), (0, 0, 1)), ((1, 0, 0), (3, 1, 0), (0, 0, 1)), ((1, 0, 0), (3, 1, 0), (0, 0, 1)), ((1, 2, 0), (0, 1, 0), (0, 0, 1)))
    >>> one, other = deed_table(machine, (0, 1, 3)), deed_table(machine, (1, 0, 2))
    >>> both(machine, one, other), both(machine, other, one)
    (((7, 2, 0), (3, 1, 0), (0, 0, 1)), ((1, 2, 0), (3, 3, 0), (0, 0, 1)))
    >>> moved(machine, turned, (1, 2, 5)), moved(machine, still(machine), (1, 2, 5)), moved(machine, ((2, 0, 0), (0, 0, 0), (0, 0, 0)), (7, 3, 5))
    ((3, 1, 5), (1, 2, 5), (6, 0, 0))
    >>> power(machine, turned, 2), power(machine, turned, 3), power(machine, turned, 0) == power(machine, turned, 10 ** 30) == still(machine)
    (((7, 0, 0), (0, 3, 0), (0, 0, 1)), ((1, 6, 0), (1, 3, 0), (0, 0, 1)), True)
    >>> [can_be_undone(machine, value) for value in (turned, ((2, 0, 0), (0, 1, 0), (0, 0, 1)), ((1, 0, 1), (0, 1, 0), (1, 0, 0)), ((1, 0, 1), (0, 1, 0), (1, 0, 1)), ((1, 4, 3), (2, 3, 1), (0, 2, 5)))]
    [True, False, True, False, True]
    >>> undone(machine, turned), undone(machine, ((1, 0, 1), (0, 1, 0), (1, 0, 0)))
    (((1, 6, 0), (1, 3, 0), (0, 0, 1)), ((0, 0, 1), (0, 1, 0), (1, 0, 7)))
    >>> undone(machine, ((2, 0, 0), (0, 1, 0), (0, 0, 1)))
    raises Unfit()
    >>> mixed = ((6, 4), ((0, 1), (1, 0)))
    >>> undone(mixed, ((5, 3), (2, 1))), can_be_undone(mixed, ((3, 3), (2, 1)))
    (((5, 3), (2, 3)), False)
    >>> table_of(machine, ((0, 1, 3), (1, 0, 2))) == turned, table_of(machine, ()) == still(machine), table_of(machine, ((0, 1, 1),) * 4) == still(machine)
    (True, True, True)
"""
TURNED = ((7, 2, 0), (3, 1, 0), (0, 0, 1))
# Machines all of whose tables can be gone through: one prime and several, like and unlike depths.
FEW_TABLES = [
    ((4,), ()), ((12,), ()), ((30,), ()), ((2, 2), ((0, 1),)), ((4, 2), ((0, 1), (1, 0))), ((3, 9), ((0, 1),)),
    ((6, 4), ((0, 1), (1, 0))), ((4, 4), ((0, 1), (1, 0))), ((6, 6), ((1, 0),)), ((2, 3), ()), ((8, 4), ((1, 0),)),
    ((2, 4, 3), ((0, 1), (1, 0))), ((2, 2, 2), ((0, 1), (1, 2), (2, 0))), ((2, 2, 4), ((0, 2),)), ((5, 5), ((0, 1),)),
]


def turned_tables(machine, table):
    """Return (the error due, a value) of table with one entry turned, for each place of it."""
    found = []
    for i, size in enumerate(machine[0]):
        for j in range(len(machine[0])):
            least = 1 if i == j else step(machine, j, i)
            for entry in (size, size + 1, size - 1, -1, -size, 2 * size, least, least + 1, least - 1, size - least, 0, 1,
                          True, False, None, "0", (0,), [0], 10 ** 399):
                right = type(entry) is int and 0 <= entry < size and entry % least == 0
                found.append((None if right else ("entry", i, j), with_entry(table, i, j, entry)))
    return found


class Examples(unittest.TestCase):
    def test_examples_of_the_document(self):
        check_examples(self, EXAMPLES)


class Errors(unittest.TestCase):
    def test_tables_are_tables(self):
        random = Random(1)
        for machine in small_machines() + great_machines():
            self.assertIsNone(table_error(machine, still_by_words(machine)))
            for _ in range(5):
                self.assertIsNone(table_error(machine, table_by_words(random, machine)))

    def test_one_entry_turned(self):
        random = Random(2)
        for machine in small_machines(count=25) + great_machines():
            for table in (still_by_words(machine), table_by_words(random, machine)):
                for due, value in turned_tables(machine, table):
                    self.assertEqual(table_error(machine, value), due, (machine, value))

    def test_two_entries_turned(self):
        random = Random(3)
        for machine in small_machines() + great_machines():
            many, table = len(machine[0]), table_by_words(random, machine)
            for _ in range(30):
                one, other = sorted((random.randrange(many), random.randrange(many)) for _ in range(2))
                value = with_entry(with_entry(table, *other, random.choice((-1, True, None))), *one, 10 ** 30)
                self.assertEqual(table_error(machine, value), ("entry", *one))

    def test_all_entries_of_small_tables(self):
        machine = ((4, 6), ())
        for rows in product(range(-1, 7), repeat=4):
            due = None
            for place, entry in enumerate(rows):
                i, j = divmod(place, 2)
                least = 1 if i == j else (2 if i == 0 else 3)
                if due is None and not (0 <= entry < machine[0][i] and entry % least == 0):
                    due = ("entry", i, j)
            self.assertEqual(table_error(machine, (rows[:2], rows[2:])), due)

    def test_rows_more_and_fewer_longer_and_shorter(self):
        for value in ((), TURNED[:1], TURNED[:2], TURNED + ((0, 0, 1),), TURNED * 2, (TURNED,), ((), (), ()),
                      (TURNED[0], TURNED[1], (0, 0)), (TURNED[0], TURNED[1], (0, 0, 1, 0)), ((7, 2), *TURNED[1:]),
                      (TURNED[0], (), TURNED[2]), ((7,), (1,), (1,))):
            self.assertEqual(table_error(MACHINE, value), "form", value)

    def test_lists_and_other_kinds(self):
        for value in (list(TURNED), [list(row) for row in TURNED], (*TURNED[:2], [0, 0, 1]), ([7, 2, 0], *TURNED[1:]),
                      (TURNED[0], None, TURNED[2]), (*TURNED[:2], "001"), (*TURNED[:2], {0: 0, 1: 0, 2: 1}),
                      (TURNED[0], 5, TURNED[2]), dict(enumerate(TURNED)), "123", nested(19, lambda part: (part,) * 1)):
            self.assertEqual(table_error(MACHINE, value), "form", repr(value))

    def test_values_of_other_kinds(self):
        for value in other_values():
            self.assertEqual(table_error(MACHINE, value), "form", repr(value)[:80])
        self.assertEqual(table_error(((8,), ()), ((),)), "form")
        self.assertEqual(table_error(((8,), ()), (((),),)), ("entry", 0, 0))
        self.assertIsNone(table_error(((8,), ()), ((7,),)))

    def test_the_form_goes_ahead_of_entries(self):
        for value in (((9, 9, 9), (9, 9, 9), (0, 0)), ((True, 1, 0), [3, 1, 0], (0, 0, 1)), ((8, 2, 0), (3, 1, 0))):
            self.assertEqual(table_error(MACHINE, value), "form")

    def test_wires_do_not_matter(self):
        for wires in ((), MACHINE[1], all_wires(3)):
            machine = (MACHINE[0], wires)
            self.assertIsNone(table_error(machine, ((1, 6, 5), (3, 1, 2), (7, 0, 5))))
            self.assertEqual(table_error(machine, ((1, 6, 5), (3, 1, 2), (7, 1, 5))), ("entry", 2, 1))

    def test_true_is_not_one(self):
        for first, second in (((1, 0, 0), (True, 0, 0)), ((1, 0, 0), (1, False, 0))):
            for _ in range(2):
                self.assertIsNone(table_error(MACHINE, (first, *TURNED[1:])))
                self.assertEqual(table_error(MACHINE, (second, *TURNED[1:]))[0], "entry")


class SmallOnes(unittest.TestCase):
    def test_still_is_as_told(self):
        for machine in small_machines() + great_machines():
            self.assertEqual(still(machine), still_by_words(machine))

    def test_still_leads_all_to_themselves(self):
        for machine in small_machines(count=15):
            for contents in all_contents(machine):
                self.assertEqual(moved(machine, still(machine), contents), contents)

    def test_deed_tables_have_one_entry(self):
        random = Random(4)
        for machine in small_machines() + great_machines():
            for _ in range(10 if machine[1] else 0):
                j, i, c = deed_of(random, machine)
                due = with_entry(still_by_words(machine), i, j, c % machine[0][i])
                self.assertEqual(deed_table(machine, (j, i, c)), due)
                self.assertIsNone(table_error(machine, due))

    def test_deed_tables_lead_as_the_deed(self):
        random = Random(5)
        for machine in small_machines(count=15):
            for _ in range(3 if machine[1] else 0):
                deed = deed_of(random, machine)
                table = deed_table(machine, deed)
                for contents in all_contents(machine):
                    self.assertEqual(moved(machine, table, contents), contents_behind(machine, contents, deed))


class Leading(unittest.TestCase):
    def test_moved_is_the_sum_by_hand(self):
        random = Random(6)
        for machine in small_machines(count=20):
            table = table_by_words(random, machine)
            for contents in all_contents(machine):
                self.assertEqual(moved(machine, table, contents), led_by(machine, table, contents))
        for machine in great_machines():
            table, contents = table_by_words(random, machine), contents_of(random, machine)
            self.assertEqual(moved(machine, table, contents), led_by(machine, table, contents))

    def test_ones_are_led_to_the_entries(self):
        random = Random(7)
        for machine in small_machines() + great_machines():
            table, many = table_by_words(random, machine), range(len(machine[0]))
            for j in many:
                ones = tuple(int(k == j) for k in many)
                self.assertEqual(moved(machine, table, ones), tuple(table[i][j] for i in many))

    def test_both_leads_by_one_then_by_the_other(self):
        random = Random(8)
        for machine in small_machines(count=20):
            one, other = table_by_words(random, machine), table_by_words(random, machine)
            table = both(machine, one, other)
            self.assertIsNone(table_error(machine, table))
            for contents in all_contents(machine):
                due = led_by(machine, other, led_by(machine, one, contents))
                self.assertEqual(led_by(machine, table, contents), due)

    def test_both_of_great_tables(self):
        random = Random(9)
        for machine in great_machines():
            one, other, third = [table_by_words(random, machine) for _ in range(3)]
            table = both(machine, one, other)
            self.assertIsNone(table_error(machine, table))
            contents = contents_of(random, machine)
            self.assertEqual(moved(machine, table, contents), led_by(machine, other, led_by(machine, one, contents)))
            self.assertEqual(both(machine, table, third), both(machine, one, both(machine, other, third)))
            for same in (both(machine, one, still(machine)), both(machine, still(machine), one)):
                self.assertEqual(same, one)

    def test_results_are_tuples_of_integers(self):
        deed = deed_table(MACHINE, (0, 1, 3))
        for table in (still(MACHINE), deed, both(MACHINE, deed, deed), power(MACHINE, TURNED, 3), undone(MACHINE, TURNED),
                      table_of(MACHINE, ())):
            self.assertEqual((type(table), {type(row) for row in table}), (tuple, {tuple}))
            self.assertEqual({type(entry) for row in table for entry in row}, {int})
        self.assertIs(type(moved(MACHINE, TURNED, (1, 2, 5))), tuple)


class Powers(unittest.TestCase):
    def test_small_ones_step_by_step(self):
        random = Random(10)
        for machine in small_machines(count=20) + great_machines()[::5]:
            table = table_by_words(random, machine)
            due = still_by_words(machine)
            for k in range(20):
                self.assertEqual(power(machine, table, k), due)
                due = both(machine, due, table)

    def test_they_lead_so_often(self):
        random = Random(11)
        for machine in small_machines(count=12):
            table, k = table_by_words(random, machine), random.randrange(30)
            found = power(machine, table, k)
            for contents in all_contents(machine):
                due = contents
                for _ in range(k):
                    due = led_by(machine, table, due)
                self.assertEqual(moved(machine, found, contents), due)

    def test_sums_and_products_of_numbers(self):
        random = Random(12)
        for machine in great_machines() + small_machines():
            table = table_by_words(random, machine)
            k, m = random.randrange(10 ** 29), random.randrange(10 ** 29)
            one, other = power(machine, table, k), power(machine, table, m)
            self.assertEqual(power(machine, table, k + m), both(machine, one, other))
            self.assertEqual(power(machine, table, k + m), both(machine, other, one))
            small = random.randrange(10)
            self.assertEqual(power(machine, table, k * small), power(machine, one, small))

    def test_the_greatest(self):
        random = Random(13)
        for machine in great_machines():
            table = table_by_words(random, machine)
            half = power(machine, table, 5 * 10 ** 29)
            self.assertEqual(power(machine, table, 10 ** 30), both(machine, half, half))
            self.assertEqual(power(machine, table, 1), table)
            self.assertEqual(power(machine, table, 0), still(machine))

    def test_many_deeds_alike(self):
        machine = ((10 ** 30, 10 ** 30), ((0, 1),))
        self.assertEqual(power(machine, deed_table(machine, (0, 1, 1)), 10 ** 30), still(machine))
        self.assertEqual(power(machine, deed_table(machine, (0, 1, 1)), 10 ** 30 - 1), ((1, 0), (10 ** 30 - 1, 1)))


class Undone(unittest.TestCase):
    def check(self, machine, table, due):
        self.assertIs(can_be_undone(machine, table), due, (machine, table))
        if due:
            found = undone(machine, table)
            self.assertIsNone(table_error(machine, found))
            self.assertEqual(both(machine, table, found), still(machine))
            self.assertEqual(both(machine, found, table), still(machine))
            self.assertEqual(undone(machine, found), table)
        else:
            with self.assertRaises(Unfit) as caught:
                undone(machine, table)
            self.assertEqual(vars(caught.exception), {})

    def test_all_tables_of_small_machines(self):
        for machine in FEW_TABLES:
            contents = all_contents(machine)
            for table in all_tables(machine):
                self.check(machine, table, len({led_by(machine, table, one) for one in contents}) == len(contents))

    def test_tables_of_other_small_machines(self):
        random = Random(14)
        for machine in small_machines():
            contents = all_contents(machine)
            for _ in range(15):
                table = table_by_words(random, machine)
                self.check(machine, table, len({led_by(machine, table, one) for one in contents}) == len(contents))

    def test_the_table_that_undoes_leads_back(self):
        for machine in small_machines(count=15):
            table = table_of(machine, program_of(Random(15), machine, 9))
            found = undone(machine, table)
            for contents in all_contents(machine):
                self.assertEqual(moved(machine, found, led_by(machine, table, contents)), contents)
                self.assertEqual(led_by(machine, table, moved(machine, found, contents)), contents)

    def test_great_tables_by_the_squares(self):
        random = Random(16)
        for machine in great_machines():
            for _ in range(3):
                table = table_by_words(random, machine)
                self.check(machine, table, self.told_by_squares(machine, table))
                for i, size in enumerate(machine[0]):
                    table = with_entry(table, i, i, 1 if random.random() < 0.5 else size - 1)
                self.check(machine, table, self.told_by_squares(machine, table))

    def told_by_squares(self, machine, table):
        for p in primes_of(machine):
            for e in range(1, 100):
                row = [i for i in range(len(machine[0])) if depth(machine, p, i) == e]
                if row and determinant_by_words([[table[i][j] % p for j in row] for i in row]) % p == 0:
                    return False
        return True

    def test_great_tables_that_programs_do(self):
        random = Random(17)
        for machine in great_machines():
            program = program_of(random, machine, 60)
            self.check(machine, table_of(machine, program), True)
            self.assertEqual(undone(machine, table_of(machine, program)), table_of(machine, backward(program)))

    def test_a_register_that_is_multiplied(self):
        for size in (8, 12, 97, 10 ** 30, 2 ** 99, 30030):
            for times in list(range(1, 40)) + [size - 1, size // 2]:
                due = all(times % p for p in primes_of(((size,), ())))
                self.check(((size,), ()), ((times % size,),), due)

    def test_nothing_but_noughts(self):
        for machine in small_machines() + great_machines():
            self.check(machine, ((0,) * len(machine[0]),) * len(machine[0]), False)
            self.check(machine, still(machine), True)


class Programs(unittest.TestCase):
    def test_a_table_leads_as_its_program(self):
        random = Random(18)
        for machine in small_machines(count=20):
            program = program_of(random, machine, 12)
            table = table_of(machine, program)
            self.assertIsNone(table_error(machine, table))
            for contents in all_contents(machine):
                self.assertEqual(moved(machine, table, contents), run(machine, program, contents))

    def test_programs_one_behind_another(self):
        random = Random(19)
        for machine in small_machines() + great_machines():
            one, other = program_of(random, machine, 15), program_of(random, machine, 20)
            tables = table_of(machine, one), table_of(machine, other)
            self.assertEqual(table_of(machine, one + other), both(machine, *tables))
            self.assertEqual(table_of(machine, backward(one)), undone(machine, tables[0]))
            self.assertEqual(both(machine, tables[0], table_of(machine, backward(one))), still(machine))
            self.assertEqual(table_of(machine, one * 5), power(machine, tables[0], 5))

    def test_a_thousand_deeds(self):
        random = Random(20)
        for machine in great_machines():
            program = program_of(random, machine, 1000)
            due = still_by_words(machine)
            for deed in program:
                due = table_behind(machine, due, deed)
            self.assertEqual(table_of(machine, program), due)
            contents = contents_of(random, machine)
            self.assertEqual(moved(machine, due, contents), run(machine, program, contents))

    def test_deed_by_deed(self):
        random = Random(21)
        for machine in small_machines() + great_machines():
            program = program_of(random, machine, 10)
            due = still(machine)
            for deed in program:
                due = both(machine, due, deed_table(machine, deed))
            self.assertEqual(table_of(machine, program), due)

    def test_all_tables_of_programs_can_be_undone(self):
        for machine in small_machines(most=40, count=20):
            if prod(machine[0]) <= 40 and len(machine[0]) < 4:
                for table in tables_done(machine):
                    self.assertIs(can_be_undone(machine, table), True)


class Calls(unittest.TestCase):
    def test_nothing_that_is_handed_in_is_changed(self):
        for value in ([[7, 2, 0], [3, 1, 0], [0, 0, 1]], ([7, 2, 0], (3, 1, [0]), {0: [1]}), {0: [1]}, [TURNED]):
            same = deepcopy(value)
            table_error(MACHINE, value)
            self.assertEqual(repr(value), repr(same))

    def test_equal_calls_get_equal_results(self):
        for value in other_values() + [TURNED, TURNED[:2], with_entry(TURNED, 1, 1, True)]:
            self.assertEqual(repr(table_error(MACHINE, value)), repr(table_error(MACHINE, value)))
        for function in (undone, can_be_undone):
            self.assertEqual(repr(function(MACHINE, TURNED)), repr(function(MACHINE, TURNED)))
