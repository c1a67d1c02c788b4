import unittest
from copy import deepcopy
from math import gcd
from random import Random

from narrowadds import errors
from narrowadds.bounds import MAX_DEEDS
from narrowadds.errors import Apart
from narrowadds.leading import apart_holds, are_joined, way
from narrowadds.programs import backward, program_error, run
from narrowadds.shares import class_size, gives, rested, shares
from narrowadds.tables import moved, table_of
from narrowadds.wiring import lean
from tests.examples import check_examples
from tests.machinery import (
    MACHINE, MIXED, RING, WAIST, all_contents, all_wires, around, around_and_back, behind_each, classes_of, contents_of,
    gives_by_words, great_machines, kinds_of_machines, levelled_machines, program_of, rows_of_contents, shares_by_words,
    small_machines,
)
from tests.papers import turned_papers
from tests.values import nested, other_values

EXAMPLES = """
    >>> from narrowadds.shares import class_size, gives, rested, shares
    >>> machine = ((8, 4, 8), ((0, 1), (1, 0), (1, 2), (2, 0)))
    >>> from narrowadds.leading import apart_holds, are_joined, way
    >>> from narrowadds.programs import run
    >>> run(machine, ((0, 1, 1), (1, 0, 2), (0, 1, -3)), (1, 0, 0)), run(machine, way(machine, (1, 0, 0), (3, 0, 0)), (1, 0, 0)), run(machine, way(machine, (4, 2, 0), (0, 2, 4)), (4, 2, 0))
    ((3, 0, 0), (3, 0, 0), (0, 2, 4))
    >>> are_joined(machine, (1, 0, 0), (0, 0, 1)), are_joined(machine, (4, 2, 0), (0, 0, 4)), are_joined(machine, (1, 0, 0), (7, 3, 6)), way(machine, (5, 1, 4), (5, 1, 4)) == () or run(machine, way(machine, (5, 1, 4), (5, 1, 4)), (5, 1, 4)) == (5, 1, 4)
    (False, False, True, True)
    >>> [apart_holds(machine, (1, 0, 0), (0, 0, 1), value) for value in (("share", 2), ("share", 0), ("rest", 0), ["share", 2], ("share", True))]
    [True, False, False, False, False]
    >>> low = ((9, 3), ((0, 1),))
    >>> apart_holds(low, (4, 0), (5, 0), ("rest", 0)), apart_holds(low, (4, 0), (5, 0), ("share", 0)), are_joined(low, (4, 0), (4, 2)), are_joined(low, (3, 1), (3, 2))
    (True, False, True, False)
    >>> way(low, (4, 0), (5, 0))
    raises Apart(('rest', 0))
    >>> class_size(machine, (1, 0, 0)), class_size(machine, (4, 2, 0)), class_size(machine, (0, 0, 0)), class_size(low, (4, 0)), class_size(low, (3, 1))
    (64, 4, 1, 3, 1)
    >>> rested(machine, (1, 0, 0)) == rested(machine, (7, 3, 6)), rested(machine, (1, 0, 0)) == rested(machine, (0, 0, 1)), are_joined(machine, (4, 2, 0), rested(machine, (4, 2, 0))), rested(machine, (0, 0, 0))
    (True, False, True, (0, 0, 0))
"""


def apart_papers(machine, one, other):
    """Return all papers by the words of the document."""
    ours, theirs = shares_by_words(machine, one), shares_by_words(machine, other)
    if ours != theirs:
        return [("share", i) for i in range(len(one)) if ours[i] != theirs[i]]
    given = gives_by_words(machine, ours)
    return [("rest", i) for i in range(len(one)) if one[i] % given[i] != other[i] % given[i]]


def others_beside(random, machine, one):
    """Return contents beside one: such as it is led to, such as are near these, any, with great parts in common."""
    sizes = machine[0]
    found = [one, run(machine, program_of(random, machine, 40), one), rested(machine, one),
             contents_of(random, machine)]
    for contents in found[:2]:
        i = random.randrange(len(sizes))
        for more in (gives(machine, one)[i], gives(machine, one)[i] * 2, shares(machine, one)[i], 1):
            found.append(contents[:i] + ((contents[i] + more) % sizes[i],) + contents[i + 1:])
    unit = random.choice([unit for unit in (1, 3, 5, 7, 11, 13,
                                            101) if all(gcd(unit, size) == 1 for size in sizes)] or [1])
    found.append(tuple(rest * unit % size for rest, size in zip(one, sizes)))
    return found


class Examples(unittest.TestCase):
    def test_examples_of_the_document(self):
        check_examples(self, EXAMPLES)


class Ways(unittest.TestCase):
    def check(self, machine, one, other):
        """Check that there is a program or a paper; return whether there is a program."""
        papers = apart_papers(machine, one, other)
        self.assertIs(are_joined(machine, one, other), papers == [], (machine, one, other))
        if papers:
            with self.assertRaises(Apart) as caught:
                way(machine, one, other)
            self.assertEqual(list(vars(caught.exception)), ["paper"])
            self.assertIn(repr(caught.exception.paper), {repr(paper) for paper in papers})
            self.assertIs(apart_holds(machine, one, other, caught.exception.paper), True)
            return False
        program = way(machine, one, other)
        self.assertIsNone(program_error(machine, program), (machine, one, other))
        self.assertLessEqual(len(program), MAX_DEEDS)
        self.assertEqual(behind_each(machine, program, one), other, (machine, one, other))
        return True

    def test_against_all_contents_of_small_machines(self):
        for machine in small_machines(most=40, count=60, seed=2):
            classes = classes_of(machine)
            for one in all_contents(machine):
                for other in all_contents(machine):
                    joined = any(one in joint and other in joint for joint in classes)
                    self.assertIs(self.check(machine, one, other), joined, (machine, one, other))

    def test_drawn_contents_of_greater_machines(self):
        random = Random(1)
        for machine in small_machines(most=2000, count=60, seed=3):
            place = {contents: at for at, joint in enumerate(classes_of(machine)) for contents in joint}
            for _ in range(40):
                one, other = contents_of(random, machine), contents_of(random, machine)
                for end in (other, random.choice(others_beside(random, machine, one))):
                    self.assertIs(self.check(machine, one, end), place[one] == place[end], (machine, one, end))

    def test_all_kinds_of_machines(self):
        random = Random(2)
        for machine in kinds_of_machines() + levelled_machines(count=60):
            for one in rows_of_contents(random, machine)[::7]:
                for other in others_beside(random, machine, one)[::2]:
                    self.check(machine, one, other)

    def test_where_programs_lead(self):
        random = Random(3)
        for machine in kinds_of_machines() + levelled_machines(count=80):
            for one in rows_of_contents(random, machine)[::2]:
                self.assertTrue(self.check(machine, one, run(machine, program_of(random, machine, 60), one)))

    def test_there_and_back_and_on(self):
        random = Random(4)
        for machine in kinds_of_machines():
            one = contents_of(random, machine)
            other = run(machine, program_of(random, machine, 20), one)
            third = run(machine, program_of(random, machine, 20), other)
            there = way(machine, one, other)
            self.assertEqual(run(machine, backward(there), other), one)
            self.assertEqual(run(machine, there + way(machine, other, third), one), third)
            self.assertTrue(self.check(machine, third, one))

    def test_noughts_are_alone(self):
        random = Random(5)
        for machine in kinds_of_machines():
            noughts, one = (0,) * len(machine[0]), contents_of(random, machine)
            self.assertEqual(run(machine, way(machine, noughts, noughts), noughts), noughts)
            self.assertIs(are_joined(machine, noughts, one), one == noughts)
            self.assertIs(are_joined(machine, one, noughts), one == noughts)

    def test_no_wire_leads_anywhere(self):
        random = Random(6)
        for machine in kinds_of_machines():
            alone, one = (machine[0], ()), contents_of(random, machine)
            self.assertEqual(way(alone, one, one), ())
            for other in others_beside(random, alone, one):
                self.assertIs(self.check(alone, one, other), one == other)

    def test_a_round_trip_of_its_own(self):
        for e in (3, 4, 40, 99):
            for rise in (1, 2, e - 1):
                machine = ((2 ** e, 2 ** (e - rise)), all_wires(2))
                for own in range(min(e, 5)):
                    one = (2 ** own, 0)
                    for other in ((2 ** own + 2 ** (own + rise), 0), (2 ** own * 3, 0), (2 ** own, 2 ** own),
                                  (2 ** (e - 1), 0)):
                        self.check(machine, one, (other[0] % 2 ** e, other[1] % 2 ** (e - rise)))
        machine = ((2 ** 9, 2 ** 9, 2 ** 7), ((0, 2), (2, 0)))
        self.assertTrue(self.check(machine, (1, 5, 64), (5, 5, 64)))
        self.assertFalse(self.check(machine, (1, 5, 64), (3, 5, 64)))

    def test_through_narrow_registers(self):
        random = Random(7)
        for sizes in ((2 ** 20, 4, 2 ** 20), (6 ** 10, 6, 6 ** 10), (10 ** 30, 10 ** 3, 10 ** 29),
                      (3 ** 9, 9, 3 ** 9, 3, 3 ** 9)):
            for wires in (around(len(sizes)), around_and_back(len(sizes))):
                machine = (sizes, wires)
                for one in rows_of_contents(random, machine):
                    for other in others_beside(random, machine, one):
                        self.check(machine, one, other)

    def test_rooms_that_are_fed_in_a_row(self):
        machine = ((2 ** 5,) * 6, tuple((i, i + 1) for i in range(5)))
        self.assertTrue(self.check(machine, (1, 0, 0, 0, 0, 0), (1, 31, 17, 3, 8, 30)))
        self.assertTrue(self.check(machine, (2, 4, 8, 16, 0, 0), (2, 0, 6, 30, 2, 4)))
        self.assertFalse(self.check(machine, (2, 4, 8, 16, 0, 0), (2, 0, 6, 30, 1, 4)))
        self.assertFalse(self.check(machine, (0, 1, 0, 0, 0, 0), (1, 1, 0, 0, 0, 0)))


class Papers(unittest.TestCase):
    def check(self, machine, one, other, values):
        due = {repr(paper) for paper in apart_papers(machine, one, other)}
        for value in values:
            self.assertIs(apart_holds(machine, one, other, value), repr(value) in due, (machine, one, other, value))

    def test_all_short_papers(self):
        random = Random(8)
        for machine in kinds_of_machines() + levelled_machines():
            for one in rows_of_contents(random, machine)[::9]:
                for other in others_beside(random, machine, one)[::4]:
                    places = range(-2, len(one) + 2)
                    self.check(machine, one, other, [(word, i) for word in ("share", "rest") for i in places])

    def test_turned_papers(self):
        random = Random(9)
        for machine in (MACHINE, MIXED, WAIST, RING, *small_machines(count=25, seed=4)):
            for _ in range(6):
                one = contents_of(random, machine)
                for other in (contents_of(random, machine), random.choice(others_beside(random, machine, one))):
                    for paper in apart_papers(machine, one, other)[:2] + [("share", 0), ("rest", 1)]:
                        self.check(machine, one, other, turned_papers(paper))

    def test_rests_tell_just_where_all_shares_are_alike(self):
        machine = ((9, 9), ())
        self.check(machine, (1, 1), (2, 2), [("rest", 0), ("rest", 1), ("share", 0), ("share", 1)])
        self.assertIs(apart_holds(machine, (1, 1), (2, 2), ("rest", 0)), True)
        self.assertIs(apart_holds(machine, (1, 1), (2, 3), ("rest", 0)), False)
        self.assertIs(apart_holds(machine, (1, 1), (2, 3), ("share", 1)), True)

    def test_true_is_not_one(self):
        machine = ((9, 9), ())
        for word, other in (("share", (3, 3)), ("rest", (2, 2))):
            for _ in range(2):
                self.assertEqual([apart_holds(machine, (1, 1), other, (word, i)) for i in (0, 1, False, True)],
                                 [True, True, False, False])

    def test_values_of_all_other_kinds(self):
        for one, other in (((1, 0, 0), (0, 0, 1)), ((0, 0, 0), (0, 0, 0)), ((1, 0, 0), (2, 0, 0))):
            for value in other_values():
                self.assertIs(apart_holds(MACHINE, one, other, value), False)
                for odd in ((value, 2), ("share", value), ("rest", value), ("share", 2, value), ("share",), (value,),
                            ["share", 2], {"share": 2}, ("share", (2,)), ("share", "2"), ("share", 10 ** 399),
                            (value, value)):
                    due = repr(odd) in {repr(paper) for paper in apart_papers(MACHINE, one, other)}
                    self.assertIs(apart_holds(MACHINE, one, other, odd), due, odd)
            for odd in (nested(20, lambda part: (part,)), Apart(("share", 2)), errors.BadLog(2), ("share", 2) * 1999):
                self.assertIs(apart_holds(MACHINE, one, other, odd), False)


class WhatHolds(unittest.TestCase):
    def test_rested_class_size_and_are_joined_say_one_thing(self):
        random = Random(10)
        for machine in kinds_of_machines() + levelled_machines():
            for one in rows_of_contents(random, machine)[::8]:
                self.assertIs(are_joined(machine, one, rested(machine, one)), True)
                for other in others_beside(random, machine, one)[::2]:
                    joined = are_joined(machine, one, other)
                    self.assertIs(rested(machine, one) == rested(machine, other), joined)
                    if joined:
                        self.assertEqual(class_size(machine, one), class_size(machine, other))
                    elif one == (0,) * len(one):
                        self.assertEqual(class_size(machine, one), 1)

    def test_class_size_counts_what_is_joined(self):
        random = Random(11)
        for machine in small_machines(most=150, count=30, seed=5):
            for _ in range(3):
                one = contents_of(random, machine)
                joined = [other for other in all_contents(machine) if are_joined(machine, one, other)]
                self.assertEqual(len(joined), class_size(machine, one))

    def test_machines_that_are_alike_join_the_same(self):
        random = Random(12)
        for machine in kinds_of_machines() + levelled_machines():
            fewer, one = lean(machine), contents_of(random, machine)
            for other in others_beside(random, machine, one):
                joined = are_joined(machine, one, other)
                self.assertIs(are_joined(fewer, one, other), joined)
                if joined:
                    self.assertEqual(run(machine, way(fewer, one, other), one), other)

    def test_contents_are_joined_to_where_tables_lead_them(self):
        random = Random(13)
        for machine in kinds_of_machines():
            table = table_of(machine, program_of(random, machine, 30))
            for one in rows_of_contents(random, machine)[::5]:
                self.assertIs(are_joined(machine, one, moved(machine, table, one)), True)


class Calls(unittest.TestCase):
    def test_nothing_that_is_handed_in_is_changed(self):
        for value in (["share", 2], ("share", [2]), {"share": [2]}, ("rest", {2: [0]})):
            told = [MACHINE, (1, 0, 0), (3, 0, 0), value]
            same = deepcopy(told)
            self.assertIs(apart_holds(*told), False)
            self.assertIs(apart_holds(value=told[3], other=told[2], one=told[1], machine=told[0]), False)
            self.assertIs(are_joined(other=told[2], one=told[1], machine=told[0]), True)
            self.assertEqual(way(other=told[2], one=told[1], machine=told[0]), way(*told[:3]))
            self.assertEqual(repr(told), repr(same))

    def test_equal_calls_get_equal_results(self):
        random = Random(14)
        for machine in great_machines()[::3] + levelled_machines():
            one = contents_of(random, machine)
            for other in others_beside(random, machine, one):
                found = []
                for _ in range(2):
                    try:
                        found.append(repr(way(machine, one, other)))
                    except Apart as error:
                        found.append(repr(error.paper))
                self.assertEqual(found[0], found[1])
