import unittest
from copy import deepcopy
from itertools import product
from random import Random

from narrowadds.bounds import MAX_DEEDS
from narrowadds.machines import contents_error, step
from narrowadds.programs import backward, deed_error, done, program_error, run
from tests.examples import check_examples
from tests.machinery import (
    MACHINE, all_contents, all_wires, contents_behind, contents_of, deed_of, great_machines, program_of,
    small_machines,
)
from tests.values import nested, other_values

EXAMPLES = """
    >>> from narrowadds.programs import backward, deed_error, done, program_error, run
    >>> machine = ((8, 4, 8), ((0, 1), (1, 0), (1, 2), (2, 0)))
    >>> [deed_error(machine, value) for value in ((0, 1, 3), (1, 0, -2), (2, 0, 0), (0, 1, 10 ** 60), (1, 0, 3), (0, 1, 10 ** 60 + 1), (0, 2, 1), (0, 9, 1), (0, 1), [0, 1, 3], (0, 1, True))]
    [None, None, None, None, 'factor', 'factor', 'wire', 'wire', 'form', 'form', 'form']
    >>> program_error(machine, ()), program_error(machine, ((0, 1, 3), (1, 0, 2))), program_error(machine, ((0, 1, 3), (1, 0, 3))), program_error(machine, [(0, 1, 3)]), program_error(machine, (0, 1, 3))
    (None, None, ('deed', 1), 'form', ('deed', 0))
    >>> done(machine, (5, 2, 7), (0, 1, 3)), done(machine, (5, 2, 7), (1, 0, 2)), done(machine, (5, 2, 7), (2, 0, -3)), done(machine, (5, 2, 7), (1, 2, 10 ** 60))
    ((5, 1, 7), (1, 2, 7), (0, 2, 7), (5, 2, 7))
    >>> program = ((0, 1, 3), (1, 0, 2))
    >>> run(machine, program, (5, 2, 7)), run(machine, program, (0, 0, 0)), run(machine, (), (5, 2, 7)), backward(program), backward(())
    ((7, 1, 7), (0, 0, 0), (5, 2, 7), ((1, 0, -2), (0, 1, -3)), ())
    >>> run(machine, backward(program), (7, 1, 7))
    (5, 2, 7)
"""
GREATEST = 10 ** 60


class Examples(unittest.TestCase):
    def test_examples_of_the_document(self):
        check_examples(self, EXAMPLES)


class Deeds(unittest.TestCase):
    def test_all_small_triples(self):
        for machine in small_machines(count=12):
            sizes, wires = machine
            for j, i in product(range(-2, 8), repeat=2):
                for c in range(-20, 21):
                    due = None
                    if (j, i) not in wires:
                        due = "wire"
                    elif c * sizes[j] % sizes[i] != 0:
                        due = "factor"
                    self.assertEqual(deed_error(machine, (j, i, c)), due, (machine, j, i, c))

    def test_the_greatest_factors(self):
        for machine in great_machines():
            for j, i in machine[1]:
                least = step(machine, j, i)
                top = GREATEST // least * least
                for c in (0, least, -least, top, -top):
                    self.assertIsNone(deed_error(machine, (j, i, c)))
                for c in (top + least, -top - least):
                    self.assertEqual(deed_error(machine, (j, i, c)), "factor")
                if least > 1:
                    for c in (1, -1, least - 1, least + 1, top - 1, 1 - top):
                        self.assertEqual(deed_error(machine, (j, i, c)), "factor")

    def test_one_beyond_the_greatest(self):
        for c, due in ((GREATEST, None), (-GREATEST, None), (GREATEST + 1, "factor"), (-GREATEST - 1, "factor"),
                       (10 ** 399, "factor"), (-(10 ** 399), "factor")):
            self.assertEqual(deed_error(MACHINE, (0, 1, c)), due)

    def test_registers_that_have_no_wire(self):
        for j, i in ((0, 2), (2, 1), (0, 0), (1, 1), (0, 3), (3, 0), (-1, 0), (0, -1), (-3, 1), (10 ** 399, 1)):
            for c in (0, 2, 8, 1):
                self.assertEqual(deed_error(MACHINE, (j, i, c)), "wire")
        self.assertEqual(deed_error(((8,), ()), (0, 0, 0)), "wire")

    def test_what_is_no_integer(self):
        for wrong in (True, False, None, "0", "", (0,), [0], {}, ()):
            for at in range(3):
                value = (0, 1, 2)[:at] + (wrong,) + (0, 1, 2)[at + 1:]
                self.assertEqual(deed_error(MACHINE, value), "form", value)

    def test_items_more_and_fewer(self):
        for value in ((), (0,), (0, 1), (0, 1, 2, 0), (0, 1, 2, 3, 4), ((0, 1), 2), ((0, 1, 2),), [0, 1, 2], "012",
                      {0: 0, 1: 1, 2: 2}, nested(19, lambda part: (part, 1, 2))):
            self.assertEqual(deed_error(MACHINE, value), "form", repr(value))

    def test_values_of_other_kinds(self):
        for value in other_values():
            self.assertEqual(deed_error(MACHINE, value), "form", repr(value)[:80])

    def test_the_first_that_applies_is_told(self):
        self.assertEqual(deed_error(MACHINE, (0, 2, True)), "form")
        self.assertEqual(deed_error(MACHINE, (9, 9, GREATEST + 1, 0)), "form")
        self.assertEqual(deed_error(MACHINE, (0, 2, GREATEST + 1)), "wire")
        self.assertEqual(deed_error(MACHINE, (1, 1, 1)), "wire")


class Programs(unittest.TestCase):
    def test_values_of_other_kinds(self):
        for value in other_values():
            due = "form" if not isinstance(value, tuple) else ("deed", 0) if value else None
            self.assertEqual(program_error(MACHINE, value), due, repr(value)[:80])

    def test_no_deed_at_all(self):
        for machine in great_machines():
            self.assertIsNone(program_error(machine, ()))

    def test_programs_of_many_deeds(self):
        random = Random(1)
        for machine in small_machines() + great_machines():
            if machine[1]:
                self.assertIsNone(program_error(machine, program_of(random, machine, 50)))
        self.assertIsNone(program_error(MACHINE, program_of(random, MACHINE, 1000)))

    def test_one_wrong_deed(self):
        program = program_of(Random(2), MACHINE, 300)
        for wrong in ((0, 1, True), (0, 1), [0, 1, 2], (0, 2, 8), (0, 1, GREATEST + 1), (1, 0, 3), None, 7, "", ()):
            for place in (0, 1, 150, 299, 300):
                value = program[:place] + (wrong,) + program[place:]
                self.assertEqual(program_error(MACHINE, value), ("deed", place))

    def test_the_first_wrong_one_is_told(self):
        value = ((0, 1, 3), (1, 0, 3), None, (0, 2, 1))
        self.assertEqual(program_error(MACHINE, value), ("deed", 1))
        self.assertEqual(program_error(MACHINE, value[:1] + value[2:]), ("deed", 1))
        self.assertEqual(program_error(MACHINE, value[::-1]), ("deed", 0))

    def test_lists(self):
        for value in ([], [(0, 1, 3)], [[0, 1, 3]], {(0, 1, 3): 0}, "0>1*3", ""):
            self.assertEqual(program_error(MACHINE, value), "form")
        self.assertEqual(program_error(MACHINE, ((0, 1, 3), [0, 1, 3])), ("deed", 1))
        self.assertEqual(program_error(MACHINE, ([(0, 1, 3)],)), ("deed", 0))
        self.assertEqual(program_error(MACHINE, (((0, 1, 3),),)), ("deed", 0))

    def test_as_many_deeds_as_may_be(self):
        self.assertIsNone(program_error(MACHINE, ((0, 1, 3),) * MAX_DEEDS))
        self.assertEqual(program_error(MACHINE, ((0, 1, 3),) * (MAX_DEEDS + 1)), "form")
        self.assertEqual(program_error(MACHINE, (None,) * (MAX_DEEDS + 1)), "form")


class Doing(unittest.TestCase):
    def test_one_deed_by_all_contents(self):
        for machine in small_machines(count=15):
            for j, i in machine[1]:
                least, size = step(machine, j, i), machine[0][i]
                for c in (0, least, -least, 3 * least, -7 * least, GREATEST // least * least):
                    for contents in all_contents(machine):
                        found = done(machine, contents, (j, i, c))
                        self.assertEqual(found, contents_behind(machine, contents, (j, i, c)))
                        self.assertEqual(found, done(machine, contents, (j, i, c % size)))

    def test_it_is_all_one_which_integer_stands_for_the_remainder(self):
        for machine in small_machines():
            for j, i in machine[1]:
                for held in range(machine[0][j]):
                    contents = tuple(held if k == j else 0 for k in range(len(machine[0])))
                    c = step(machine, j, i)
                    for other in (held + machine[0][j], held - 5 * machine[0][j]):
                        self.assertEqual(done(machine, contents, (j, i, c))[i], c * other % machine[0][i])

    def test_a_run_is_deed_by_deed(self):
        random = Random(3)
        for machine in small_machines() + great_machines():
            program = program_of(random, machine, 30)
            start = contents_of(random, machine)
            contents = start
            for many in range(len(program) + 1):
                self.assertEqual(run(machine, program[:many], start), contents)
                self.assertIsNone(contents_error(machine, contents))
                if many < len(program):
                    contents = contents_behind(machine, contents, program[many])
            self.assertEqual(run(machine, (), start), start)

    def test_a_thousand_deeds(self):
        random = Random(4)
        machine = ((10 ** 30,) * 6, all_wires(6))
        program, contents = program_of(random, machine, 1000), contents_of(random, machine)
        due = contents
        for deed in program:
            due = contents_behind(machine, due, deed)
        self.assertEqual(run(machine, program, contents), due)

    def test_the_kinds_of_what_is_returned(self):
        found = run(MACHINE, ((0, 1, 3),), (5, 2, 7))
        self.assertIs(type(found), tuple)
        self.assertEqual({type(rest) for rest in found}, {int})


class Backward(unittest.TestCase):
    def test_it_turns_the_row_and_the_signs(self):
        random = Random(5)
        for machine in small_machines():
            program = program_of(random, machine, 7)
            self.assertEqual(backward(program), tuple((j, i, -c) for j, i, c in reversed(program)))
            self.assertEqual(backward(backward(program)), program)
            self.assertIsNone(program_error(machine, backward(program)))

    def test_noughts_have_no_sign(self):
        self.assertEqual(repr(backward(((0, 1, 0),))), "((0, 1, 0),)")

    def test_it_leads_back(self):
        random = Random(6)
        for machine in small_machines() + great_machines():
            program = program_of(random, machine, 40)
            for _ in range(5):
                contents = contents_of(random, machine)
                self.assertEqual(run(machine, backward(program), run(machine, program, contents)), contents)
                self.assertEqual(run(machine, program, run(machine, backward(program), contents)), contents)


class WhatHolds(unittest.TestCase):
    def test_factors_that_are_alike_modulo_the_size(self):
        random = Random(7)
        for machine in great_machines() + small_machines():
            for j, i in machine[1]:
                size, least, contents = machine[0][i], step(machine, j, i), contents_of(random, machine)
                c = least * random.randrange(size)
                due = done(machine, contents, (j, i, c))
                for same in (c + size, c - size, c - 10 * size, c % size):
                    self.assertIsNone(deed_error(machine, (j, i, same)))
                    self.assertEqual(done(machine, contents, (j, i, same)), due)

    def test_deeds_on_one_wire(self):
        random = Random(8)
        for machine in great_machines() + small_machines():
            for j, i in machine[1]:
                least, contents = step(machine, j, i), contents_of(random, machine)
                one, other = [least * random.randint(-1000, 1000) for _ in range(2)]
                due = done(machine, contents, (j, i, one + other))
                self.assertEqual(run(machine, ((j, i, one), (j, i, other)), contents), due)
                self.assertEqual(run(machine, ((j, i, other), (j, i, one)), contents), due)

    def test_deeds_that_change_places(self):
        random = Random(9)
        for machine in great_machines() + small_machines():
            for _ in range(20 if machine[1] else 0):
                one, other = deed_of(random, machine), deed_of(random, machine)
                if one[1] != other[0] and other[1] != one[0]:
                    contents = contents_of(random, machine)
                    self.assertEqual(run(machine, (one, other), contents), run(machine, (other, one), contents))

    def test_unlike_contents_come_to_unlike_ones(self):
        random = Random(10)
        for machine in small_machines():
            program = program_of(random, machine, 12)
            found = {run(machine, program, contents) for contents in all_contents(machine)}
            self.assertEqual(found, set(all_contents(machine)))

    def test_sums_and_multiples_of_contents(self):
        random = Random(11)
        for machine in small_machines() + great_machines():
            sizes, program = machine[0], program_of(random, machine, 20)
            self.assertEqual(run(machine, program, (0,) * len(sizes)), (0,) * len(sizes))
            for _ in range(5):
                one, other, times = contents_of(random, machine), contents_of(random, machine), random.randrange(99)
                both = tuple((times * a + b) % size for a, b, size in zip(one, other, sizes))
                ends = zip(run(machine, program, one), run(machine, program, other), sizes)
                self.assertEqual(run(machine, program, both), tuple((times * a + b) % size for a, b, size in ends))


class Calls(unittest.TestCase):
    def test_nothing_that_is_handed_in_is_changed(self):
        for value in ([[0, 1, 3]], ([0, 1, 3], {0: [1]}), [0, 1, [3]], {0: [1]}, ((0, 1, 3), [(1, 0, 2)])):
            same = deepcopy(value)
            deed_error(MACHINE, value)
            program_error(MACHINE, value)
            self.assertEqual(repr(value), repr(same))

    def test_equal_calls_get_equal_results(self):
        for value in other_values() + [(0, 1, 3), ((0, 1, 3),), ((0, 1, 3), None)]:
            self.assertEqual(repr(deed_error(MACHINE, value)), repr(deed_error(MACHINE, value)))
            self.assertEqual(repr(program_error(MACHINE, value)), repr(program_error(MACHINE, value)))

    def test_true_is_not_one(self):
        for first, second in (((0, 1, 1), (0, 1, True)), ((1, 0, 0), (1, 0, False)), ((0, 1, 1), (False, 1, 1))):
            for _ in range(2):
                self.assertIsNone(deed_error(MACHINE, first))
                self.assertEqual(deed_error(MACHINE, second), "form")
                self.assertEqual(program_error(MACHINE, (first, second)), ("deed", 1))
