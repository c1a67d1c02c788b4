import unittest
from copy import deepcopy
from random import Random

from narrowadds import errors
from narrowadds.barring import is_done, paper_holds
from narrowadds.errors import Barred
from narrowadds.machines import primes_of
from narrowadds.roads import least_factor
from narrowadds.rooms import mark, rooms, telling
from narrowadds.tables import both, still, table_of
from narrowadds.wiring import lean
from narrowadds.writing import written
from tests.machinery import (
    MACHINE, MIXED, RING, WAIST, all_tables, all_wires, around, kinds_of_machines, levelled_machines,
    machines_of_few_tables, program_of, small_machines, still_by_words, table_by_words, table_that_keeps_climbs,
    tables_done, with_entry,
)
from tests.papers import room_papers, table_papers, turned_papers
from tests.values import nested, other_values

THREE = ((3, 0, 0), (0, 1, 0), (0, 0, 1))
HALF = ((1, 0, 0), (0, 1, 0), (1, 0, 1))


def drawn_tables(random, machine):
    """Return tables of machine: of a program, such a one with a turned entry, one with right entries, any one."""
    table = table_of(machine, program_of(random, machine, 30))
    i, j = random.randrange(len(machine[0])), random.randrange(len(machine[0]))
    entry = (table[i][j] * random.choice((0, 2, 3, 5, 1 + 2 ** 10, 1 + 6 ** 8))) % machine[0][i]
    return [table, with_entry(table, i, j, entry), table_that_keeps_climbs(random, machine),
            table_by_words(random, machine)]


class Done(unittest.TestCase):
    def test_all_tables_of_small_machines(self):
        for machine in machines_of_few_tables(most=1500, count=90, seed=2):
            due = tables_done(machine)
            for table in all_tables(machine):
                found = is_done(machine, table)
                self.assertIs(found, table in due, (machine, table))

    def test_drawn_tables_against_papers(self):
        random = Random(1)
        for machine in kinds_of_machines() + levelled_machines(count=60):
            for table in drawn_tables(random, machine):
                self.assertIs(is_done(machine, table), table_papers(machine, table) == [], (machine, table))

    def test_still_is_done(self):
        for machine in kinds_of_machines() + levelled_machines():
            self.assertIs(is_done(machine, still_by_words(machine)), True)
            self.assertIs(is_done((machine[0], ()), still_by_words(machine)), True)

    def test_tables_of_programs_are_done(self):
        random = Random(2)
        for machine in kinds_of_machines() + levelled_machines(count=60):
            one, other = [table_of(machine, program_of(random, machine, many)) for many in (3, 50)]
            for table in (one, other, both(machine, one, other)):
                self.assertIs(is_done(machine, table), True)
                self.assertIs(is_done(lean(machine), table), True)

    def test_the_last_level_counts(self):
        for e in (1, 2, 3, 30, 49):
            machine = ((4 ** e,) * 2, all_wires(2))
            self.assertIs(is_done(machine, ((1 + 2 ** (2 * e - 1), 0), (0, 1))), False)
            self.assertIs(is_done(machine, ((1 + 2 ** (2 * e - 1), 0), (0, 1 + 2 ** (2 * e - 1)))), True)
            wide = ((4 ** e * 2, 4 ** e), all_wires(2))
            # The narrower register keeps the room of both from telling at the last level.
            self.assertIs(is_done(wide, ((1 + 4 ** e, 0), (0, 1))), True)
            self.assertIs(is_done(wide, ((1 + 4 ** e // 2, 0), (0, 1))), False)


class Papers(unittest.TestCase):
    def check(self, machine, table, values):
        """Check each of values against the words."""
        due = {repr(paper) for paper in table_papers(machine, table)}
        for value in values:
            self.assertIs(paper_holds(machine, table, value), repr(value) in due, (machine, table, value))

    def test_right_papers_hold(self):
        random = Random(3)
        for machine in kinds_of_machines() + levelled_machines():
            for table in drawn_tables(random, machine):
                for paper in table_papers(machine, table)[:60]:
                    self.assertIs(paper_holds(machine, table, paper), True, (machine, table, paper))

    def test_what_is_raised_holds(self):
        random = Random(4)
        for machine in kinds_of_machines() + levelled_machines():
            for table in drawn_tables(random, machine):
                if not is_done(machine, table):
                    with self.assertRaises(Barred) as caught:
                        written(machine, table)
                    self.assertIs(paper_holds(machine, table, caught.exception.paper), True)

    def test_turned_papers_against_the_words(self):
        random = Random(5)
        for machine in (MACHINE, MIXED, WAIST, RING, *small_machines(count=25, seed=3), *levelled_machines(count=12)):
            for table in drawn_tables(random, machine):
                papers = table_papers(machine, table)
                for paper in papers[:2] + papers[-2:] + [("entry", 0, 1), ("room", 2, 0, (0,)), ("room", 3, 0, (0, 1))]:
                    self.check(machine, table, turned_papers(paper))

    def test_all_entry_papers_against_least_factors(self):
        random = Random(6)
        for machine in kinds_of_machines() + levelled_machines():
            many, table = len(machine[0]), table_by_words(random, machine)
            for i in range(-1, many + 2):
                for j in range(-1, many + 2):
                    due = 0 <= i < many and 0 <= j < many and i != j
                    due = due and table[i][j] % least_factor(machine, j, i) != 0
                    self.assertIs(paper_holds(machine, table, ("entry", i, j)), due)

    def test_all_room_papers_against_marks(self):
        random = Random(7)
        for machine in small_machines(count=25) + levelled_machines(count=15):
            table = table_that_keeps_climbs(random, machine)
            for p in primes_of(machine):
                for t in range(9):
                    told = telling(machine, p, t)
                    near = rooms(machine, p, 0) + rooms(machine, p, t) + rooms(machine, p, t + 1)
                    for room in set(near + ((0,), (0, 1))):
                        due = room in told and mark(machine, table, p, t, room) != 1
                        self.assertIs(paper_holds(machine, table, ("room", p, t, room)), due)

    def test_levels_beyond(self):
        machine, table = ((8, 8), all_wires(2)), ((7, 0), (0, 1))
        self.assertEqual([paper_holds(machine, table, ("room", 2, t, (0, 1))) for t in (-1, 0, 1, 2, 3, 4, 10 ** 399)],
                         [False, False, True, True, False, False, False])
        alone = ((2 ** 99,), ())
        for t in (0, 1, 50, 97, 98, 99, 100, 10 ** 399):
            self.assertIs(paper_holds(alone, ((1 + 2 ** 98,),), ("room", 2, t, (0,))), t == 98)
            self.assertIs(paper_holds(alone, ((0,),), ("room", 2, t, (0,))), t < 99)

    def test_true_is_not_one(self):
        machine, table = ((9, 3, 9), around(3)), ((2, 0, 0), (0, 2, 0), (1, 0, 4))
        for right in (("room", 3, 0, (0,)), ("room", 3, 0, (1,)), ("entry", 2, 0)):
            self.assertIs(paper_holds(machine, table, right), True, right)
        for wrong in (("room", 3, False, (0,)), ("room", 3, 0, (False,)), ("room", 3, 0, (True,)), ("room", 3, 0, [1]),
                      ("entry", 2, False), ["entry", 2, 0], ("room", 3, 0, 1), ("room", 3, 0, ((1,),)),
                      ("room", True, 0, (0,)), ("entry", "2", "0"), ("entry", (2,), (0,)), ("room", "3", 0, (0,))):
            self.assertIs(paper_holds(machine, table, wrong), False, wrong)

    def test_values_of_all_other_kinds(self):
        for machine, table in ((MACHINE, THREE), (MACHINE, HALF), (((8,), ()), ((0,),)), (MACHINE, still(MACHINE))):
            for value in other_values():
                self.assertIs(paper_holds(machine, table, value), False)
                for odd in (("entry", value, 0), ("entry", 2, value), ("room", value, 0, (0,)),
                            ("room", 2, value, (0,)), ("room", 2, 0, value), ("room", 2, 0, (value,)),
                            ("room", 2, 1, (0, 1, value)),
                            (value, 2, 0),
                            (value, 2, 1, (0, 1, 2)), (value,), (value, value, value), (value,) * 4):
                    due = {repr(paper) for paper in table_papers(machine, table)}
                    self.assertIs(paper_holds(machine, table, odd), repr(odd) in due, odd)

    def test_deep_and_long_values(self):
        for value in (("room", 2, 1, nested(18, lambda part: (part,))), ("room", 2, 1, (0,) * 3990), ("entry",) * 3999,
                      ("room", 2, 1, tuple(range(3000))), ("rows", 2, (0,)), ("entry", 2, 0, 0), ("room", 2, 0)):
            self.assertIs(paper_holds(MACHINE, THREE, value), False)
            self.assertIs(paper_holds(MACHINE, HALF, value), False)
        self.assertIs(paper_holds(MACHINE, THREE, Barred(("room", 2, 1, (0, 1, 2)))), False)
        self.assertIs(paper_holds(MACHINE, THREE, errors.Apart(("entry", 2, 0))), False)

    def test_a_done_table_has_none(self):
        random = Random(8)
        for machine in small_machines() + levelled_machines():
            table = table_of(machine, program_of(random, machine, 30))
            for p in primes_of(machine):
                for t in range(5):
                    for room in telling(machine, p, t):
                        self.assertIs(paper_holds(machine, table, ("room", p, t, room)), False)
            for j, i in all_wires(len(machine[0])):
                self.assertIs(paper_holds(machine, table, ("entry", i, j)), False)

    def test_papers_of_still_with_one_turned_corner(self):
        for machine in levelled_machines():
            table = with_entry(still(machine), 0, 0, 0)
            found = room_papers(machine, table)
            self.assertTrue(found)
            for paper in found:
                self.assertIs(paper_holds(machine, table, paper), True)


class Calls(unittest.TestCase):
    def test_nothing_that_is_handed_in_is_changed(self):
        for value in (["room", 2, 1, [0, 1, 2]], ("room", 2, [1], {0: [1]}), ("entry", [0], [1]), {"entry": [1, 2]}):
            told = [MACHINE, THREE, value]
            same = deepcopy(told)
            self.assertIs(paper_holds(*told), False)
            self.assertIs(paper_holds(value=told[2], table=told[1], machine=told[0]), False)
            self.assertIs(is_done(*told[:2]), False)
            self.assertEqual(repr(told), repr(same))

    def test_equal_calls_get_equal_results(self):
        for table, first, second in ((THREE, ("room", 2, 1, (0, 1, 2)), ("room", 2, True, (0, 1, 2))),
                                     (HALF, ("entry", 2, 0), ("entry", 2, False))):
            for _ in range(2):
                self.assertIs(paper_holds(MACHINE, table, first), True)
                self.assertIs(paper_holds(MACHINE, table, second), False)
