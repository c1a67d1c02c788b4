import unittest
from math import gcd, prod
from random import Random

from narrowadds.machines import contents_error, depth, primes_of
from narrowadds.programs import run
from narrowadds.rooms import rooms
from narrowadds.shares import class_size, gives, rested, shares
from narrowadds.wiring import lean
from tests.examples import check_examples
from tests.machinery import (
    MACHINE, MIXED, RING, WAIST, all_contents, all_wires, around, classes_of, contents_of, gives_by_words,
    great_machines, least_factor_by_words, program_of, rows_of_contents, shares_by_words, small_machines, some_wires,
)

EXAMPLES = """
    >>> from narrowadds.shares import class_size, gives, rested, shares
    >>> machine = ((8, 4, 8), ((0, 1), (1, 0), (1, 2), (2, 0)))
    >>> shares(machine, (1, 0, 0)), gives(machine, (1, 0, 0)), shares(machine, (4, 2, 0)), gives(machine, (4, 2, 0)), shares(machine, (0, 0, 0))
    ((1, 1, 2), (2, 1, 2), (4, 2, 4), (4, 4, 4), (8, 4, 8))
    >>> low = ((9, 3), ((0, 1),))
    >>> class_size(machine, (1, 0, 0)), class_size(machine, (4, 2, 0)), class_size(machine, (0, 0, 0)), class_size(low, (4, 0)), class_size(low, (3, 1))
    (64, 4, 1, 3, 1)
    >>> from narrowadds.leading import are_joined
    >>> rested(machine, (1, 0, 0)) == rested(machine, (7, 3, 6)), rested(machine, (1, 0, 0)) == rested(machine, (0, 0, 1)), are_joined(machine, (4, 2, 0), rested(machine, (4, 2, 0))), rested(machine, (0, 0, 0))
    (True, False, True, (0, 0, 0))
"""


def machines():
    """Return machines of one register to six, of one prime and of several, small and great."""
    random = Random(1)
    found = small_machines() + great_machines()
    for _ in range(20):
        sizes = tuple(random.choice((2, 4, 8, 64, 6, 12, 36, 9, 162, 10 ** 30)) for _ in range(6))
        found.append((sizes, some_wires(random, 6)))
    return found


def times_in(p, number):
    return next(times for times in range(2000) if number % p ** (times + 1))


def class_size_by_words(machine, contents):
    """Return the product that the document tells."""
    shared = shares_by_words(machine, contents)
    given = gives_by_words(machine, shared)
    found = 1
    for p in primes_of(machine):
        for room in rooms(machine, p, 0):
            i, many = room[0], len(room)
            e, own = depth(machine, p, i), times_in(p, shared[i])
            beyond = [j for j in range(len(shared)) if j not in room]
            if any(times_in(p, least_factor_by_words(machine, j, i) * shared[j]) <= own for j in beyond):
                found *= p ** (many * (e - own))
            elif own < e and many >= 2:
                found *= p ** (many * (e - own)) - p ** (many * (e - own - 1))
            elif own < e:
                found *= p ** (e - min(e, times_in(p, given[i])))
    return found


class Examples(unittest.TestCase):
    def test_examples_of_the_document(self):
        check_examples(self, EXAMPLES)


class Shares(unittest.TestCase):
    def test_against_the_words(self):
        random = Random(2)
        for machine in machines():
            for contents in rows_of_contents(random, machine):
                due = shares_by_words(machine, contents)
                self.assertEqual(shares(machine, contents), due)
                self.assertEqual(gives(machine, contents), gives_by_words(machine, due))

    def test_by_all_contents_of_small_machines(self):
        for machine in small_machines(most=150, count=20):
            for contents in all_contents(machine):
                due = shares_by_words(machine, contents)
                self.assertEqual(shares(machine, contents), due)
                self.assertEqual(gives(machine, contents), gives_by_words(machine, due))

    def test_noughts_have_the_sizes(self):
        for machine in machines():
            contents = (0,) * len(machine[0])
            self.assertEqual((shares(machine, contents), gives(machine, contents)), (machine[0], machine[0]))

    def test_a_register_alone(self):
        for size in (2, 12, 10 ** 30):
            for rest in (0, 1, size // 2, size - 1):
                self.assertEqual(shares(((size,), ()), (rest,)), (gcd(size, rest),))
                self.assertEqual(gives(((size,), ()), (rest,)), (size,))

    def test_great_parts_in_common(self):
        machine = ((10 ** 30,) * 3, around(3))
        contents = (6 * 10 ** 20, 15 * 10 ** 20, 10 * 10 ** 25)
        self.assertEqual(shares(machine, contents), (10 ** 20,) * 3)
        self.assertEqual(gives(machine, contents), (10 ** 20,) * 3)
        alone = (machine[0], ())
        self.assertEqual(shares(alone, contents), (2 * 10 ** 20, 5 * 10 ** 20, 10 ** 26))
        self.assertEqual(gives(alone, contents), (10 ** 30,) * 3)

    def test_a_share_divides_the_size_and_what_the_register_holds(self):
        random = Random(3)
        for machine in machines():
            for contents in rows_of_contents(random, machine):
                for size, rest, share, give in zip(machine[0], contents, shares(machine, contents), gives(machine, contents)):
                    self.assertEqual((size % share, rest % share, size % give, give % share), (0, 0, 0, 0))

    def test_they_stay_behind_deeds(self):
        random = Random(4)
        for machine in machines():
            for contents in rows_of_contents(random, machine):
                behind = run(machine, program_of(random, machine, 25), contents)
                self.assertEqual(shares(machine, behind), shares(machine, contents))
                given = gives(machine, contents)
                self.assertEqual(gives(machine, behind), given)
                for rest, other, give in zip(contents, behind, given):
                    self.assertEqual((rest - other) % give, 0)

    def test_they_tell_the_classes_of_small_machines(self):
        for machine in small_machines():
            told = {}
            for contents in all_contents(machine):
                rests = tuple(rest % give for rest, give in zip(contents, gives(machine, contents)))
                told.setdefault((shares(machine, contents), rests), []).append(contents)
            self.assertEqual(sorted(told.values()), sorted(classes_of(machine)))


class ClassSizes(unittest.TestCase):
    def test_against_all_contents_of_small_machines(self):
        for machine in small_machines(count=60):
            for one in classes_of(machine):
                for contents in one:
                    self.assertEqual(class_size(machine, contents), len(one), (machine, contents))

    def test_one_of_each_class_makes_all(self):
        for machine in small_machines(most=2000, count=25, seed=5):
            found = {}
            for contents in all_contents(machine):
                found[rested(machine, contents)] = class_size(machine, contents)
            self.assertEqual(sum(found.values()), prod(machine[0]))

    def test_against_the_words(self):
        random = Random(6)
        for machine in machines():
            for contents in rows_of_contents(random, machine):
                self.assertEqual(class_size(machine, contents), class_size_by_words(machine, contents))

    def test_noughts_are_alone(self):
        for machine in machines():
            self.assertEqual(class_size(machine, (0,) * len(machine[0])), 1)

    def test_no_wire_leads_anywhere(self):
        random = Random(7)
        for machine in machines():
            self.assertEqual(class_size((machine[0], ()), contents_of(random, machine)), 1)

    def test_rooms_of_two_registers_to_six(self):
        for many in range(2, 7):
            for wires in (around(many), all_wires(many)):
                for p, e in ((2, 99), (3, 62), (97, 15)):
                    machine = ((p ** e,) * many, wires)
                    for own in (0, 1, e - 1):
                        contents = (0,) * (many - 1) + (p ** own,)
                        due = p ** (many * (e - own)) - p ** (many * (e - own - 1))
                        self.assertEqual(class_size(machine, contents), due)

    def test_each_prime_by_itself(self):
        machine = ((10 ** 30,) * 2, all_wires(2))
        due = (2 ** 60 - 2 ** 58) * (5 ** 60 - 5 ** 58)
        self.assertEqual(class_size(machine, (1, 0)), due)
        self.assertEqual(class_size(machine, (2 ** 30, 0)), 5 ** 60 - 5 ** 58)
        self.assertEqual(class_size(machine, (0, 5 ** 30)), 2 ** 60 - 2 ** 58)

    def test_it_stays_behind_deeds(self):
        random = Random(8)
        for machine in machines():
            for contents in rows_of_contents(random, machine):
                behind = run(machine, program_of(random, machine, 25), contents)
                self.assertEqual(class_size(machine, behind), class_size(machine, contents))


class Rested(unittest.TestCase):
    def test_against_all_contents_of_small_machines(self):
        for machine in small_machines(count=60):
            seen = set()
            for one in classes_of(machine):
                found = {rested(machine, contents) for contents in one}
                self.assertEqual(len(found), 1, (machine, one))
                self.assertLessEqual(found, set(one))
                self.assertEqual(found & seen, set())
                seen |= found

    def test_noughts_rest(self):
        for machine in machines():
            contents = (0,) * len(machine[0])
            self.assertEqual(rested(machine, contents), contents)

    def test_what_it_tells_rests(self):
        random = Random(9)
        for machine in machines():
            for contents in rows_of_contents(random, machine):
                found = rested(machine, contents)
                self.assertIsNone(contents_error(machine, found))
                self.assertEqual(rested(machine, found), found)

    def test_it_is_in_the_class(self):
        random = Random(10)
        for machine in machines():
            for contents in rows_of_contents(random, machine):
                found = rested(machine, contents)
                self.assertEqual(shares(machine, found), shares(machine, contents))
                for rest, other, give in zip(contents, found, gives(machine, contents)):
                    self.assertEqual((rest - other) % give, 0)

    def test_the_same_behind_deeds(self):
        random = Random(11)
        for machine in machines():
            for contents in rows_of_contents(random, machine):
                behind = run(machine, program_of(random, machine, 25), contents)
                self.assertEqual(rested(machine, behind), rested(machine, contents))

    def test_machines_that_are_alike_have_the_same_classes(self):
        random = Random(12)
        for machine in machines():
            fewer = lean(machine)
            for contents in rows_of_contents(random, machine):
                self.assertEqual(class_size(fewer, contents), class_size(machine, contents))
                found = rested(fewer, contents)
                self.assertEqual(rested(machine, found), rested(machine, contents))
                self.assertEqual(shares(fewer, contents), shares(machine, contents))

    def test_no_wire_leads_anywhere(self):
        random = Random(13)
        for machine in machines():
            contents = contents_of(random, machine)
            self.assertEqual(rested((machine[0], ()), contents), contents)


class Calls(unittest.TestCase):
    def test_equal_calls_get_equal_results(self):
        for machine in (MACHINE, MIXED, WAIST, RING):
            for contents in all_contents(machine)[::7]:
                for function in (shares, gives, class_size, rested):
                    found = function(machine, contents)
                    self.assertEqual(repr(function(machine, contents)), repr(found))
                    if function is not class_size:
                        self.assertEqual((type(found), {type(one) for one in found}), (tuple, {int}))
