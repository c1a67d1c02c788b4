import unittest
from collections import Counter
from copy import deepcopy
from itertools import product
from random import Random

from narrowadds.barring import is_done, paper_holds
from narrowadds.counts import table_count
from narrowadds.errors import Barred
from narrowadds.machines import step
from narrowadds.tables import table_error, table_of
from narrowadds.wishes import granted, wish_count, wish_error, wish_holds
from narrowadds.writing import written
from tests.examples import check_examples
from tests.machinery import (
    MACHINE, MIXED, RING, WAIST, all_tables, all_wires, around, behind_deeds, great_machines, kinds_of_machines,
    levelled_machines, machines_of_few_tables, program_of, small_machines, table_by_words, table_that_keeps_climbs,
    tables_done, with_entry,
)
from tests.papers import table_papers, turned_papers, wish_papers
from tests.values import other_values

EXAMPLES = """
    >>> from narrowadds.wishes import granted, wish_count, wish_error, wish_holds
    >>> machine = ((8, 4, 8), ((0, 1), (1, 0), (1, 2), (2, 0)))
    >>> [wish_error(machine, value) for value in ((None, None, None), ((3, 2, 5), None, (2, 0, 1)), [None] * 3, (None, None), ((1, 1, 0), [0, 1, 0], None), ((1, 1), None, 5))]
    [None, None, 'form', 'form', ('row', 1), ('row', 0)]
    >>> [wish_error(machine, (row, None, None)) for row in ((1, 1, 0), (8, 0, 0), (1, 0, True), (1, 2, -1), (7, 6, 7))]
    [('entry', 0, 1), ('entry', 0, 0), ('entry', 0, 2), ('entry', 0, 2), None]
    >>> granted(machine, ((3, 2, 5), (1, 1, 0), (2, 0, 3))), granted(machine, ((3, 2, 5), None, None))[0], granted(machine, (None, (1, 1, 0), None))[1]
    (((3, 2, 5), (1, 1, 0), (2, 0, 3)), (3, 2, 5), (1, 1, 0))
    >>> granted(machine, ((3, 2, 5), (1, 1, 0), (2, 0, 1)))
    raises Barred(('room', 2, 1, (0, 1, 2)))
    >>> granted(machine, (None, None, (1, 0, 1)))
    raises Barred(('entry', 2, 0))
    >>> [wish_holds(machine, ((2, 0, 0), None, (1, 0, 1)), value) for value in (("entry", 2, 0), ("rows", 2, (0,)), ("room", 2, 0, (0,)), ("rows", 2, (2,)), ("room", 2, 1, (0, 1, 2)), ("entry", 0, 1), ["entry", 2, 0])]
    [True, True, True, False, False, False, False]
    >>> two, mixed = ((4, 4), ((0, 1), (1, 0))), ((6, 6), ((0, 1),))
    >>> granted(two, ((2, 2), None))
    raises Barred(('rows', 2, (0, 1)))
    >>> granted(two, ((2, 1), None))[1] in ((1, 1), (1, 3), (3, 0), (3, 2)), granted(mixed, ((1, 0), None))[1][1], granted(mixed, (None, (4, 1)))
    (True, 1, ((1, 0), (4, 1)))
    >>> granted(mixed, ((5, 0), None))
    raises Barred(('room', 3, 0, (0,)))
    >>> [wish_count(machine, wish) for wish in (((3, 2, 5), None, None), ((3, 2, 5), (1, 1, 0), None), ((3, 2, 5), (1, 1, 0), (2, 0, 3)), ((3, 2, 5), (1, 1, 0), (2, 0, 1)), (None, None, None))]
    [1024, 32, 1, 0, 131072]
    >>> [wish_count(two, wish) for wish in (((2, 1), None), ((2, 2), None), (None, None))], wish_count(mixed, ((1, 0), None)), wish_count(mixed, (None, (4, 1)))
    ([4, 0, 48], 6, 1)
"""
WISH = ((3, 2, 5), None, (2, 0, 1))


def with_rows(table, told):
    """Return the wish that tells the rows of the registers told as in table."""
    return tuple(row if i in told else None for i, row in enumerate(table))


def some_rows(random, table):
    """Return a wish that tells some rows of table, or none, or all."""
    chance = random.random()
    return with_rows(table, [i for i in range(len(table)) if random.random() < chance])


def turned_somewhere(random, machine, table):
    """Return table with one entry turned, so that it is a table still."""
    i, j = random.randrange(len(table)), random.randrange(len(table))
    size, least = machine[0][i], 1 if i == j else step(machine, j, i)
    entry = random.choice((0, table[i][j] + least, table[i][j] * 3, least * random.randrange(size // least)))
    return with_entry(table, i, j, entry % size)


def drawn_wishes(random, machine, many=3):
    """Return wishes: told rows of programs' tables, of such with one turned entry, of tables with right entries."""
    found = [(None,) * len(machine[0])]
    for _ in range(many):
        table = table_of(machine, program_of(random, machine, 30))
        found += [with_rows(table, range(len(table))), some_rows(random, table)]
        found.append(some_rows(random, turned_somewhere(random, machine, table)))
        found.append(some_rows(random, table_that_keeps_climbs(random, machine)))
    return found + [some_rows(random, table_by_words(random, machine))]


def rows_of(machine, i):
    """Return all rows that a table of machine can have for the register i."""
    least = [1 if j == i else step(machine, j, i) for j in range(len(machine[0]))]
    return list(product(*[range(0, machine[0][i], one) for one in least]))


class Examples(unittest.TestCase):
    def test_examples_of_the_document(self):
        check_examples(self, EXAMPLES)


class Errors(unittest.TestCase):
    def test_wishes_are_wishes(self):
        random = Random(1)
        for machine in kinds_of_machines():
            for wish in drawn_wishes(random, machine):
                self.assertIsNone(wish_error(machine, wish))

    def test_tables_are_wishes_and_have_the_same_errors(self):
        random = Random(2)
        for machine in small_machines() + great_machines():
            table = table_by_words(random, machine)
            self.assertIsNone(wish_error(machine, table))
            for i, size in enumerate(machine[0]):
                for j in range(len(machine[0])):
                    least = 1 if i == j else step(machine, j, i)
                    for entry in (size, -1, -size, 2 * size, least, least + 1, size - 1, size - least, True, False,
                                  None, "0", (0,), [0], 10 ** 399, 0, 1):
                        value = with_entry(table, i, j, entry)
                        self.assertEqual(wish_error(machine, value), table_error(machine, value))
                        wish = with_rows(value, [i])
                        self.assertEqual(wish_error(machine, wish), table_error(machine, value))

    def test_one_item_turned(self):
        for i in range(3):
            for odd in ((), [], {}, 0, 1, True, False, "", "row", "None", (1, 2), (1, 2, 3, 4), [1, 0, 0], {0: 1},
                        ((1, 0, 0),), (None,), {0: 1, 1: 0, 2: 0}, "100", [None]):
                value = WISH[:i] + (odd,) + WISH[i + 1:]
                self.assertEqual(wish_error(MACHINE, value), ("row", i), value)

    def test_a_row_goes_ahead_of_entries(self):
        for value, due in (
            ((((9, 9, 9), None, [2, 0, 1])), ("row", 2)), (((1, 1, 0), (0, 9, 0), 5), ("row", 2)),
            (([1, 0, 0], None, (9, 9, 9)), ("row", 0)), (((9, 0, 0), (9, 0, 0), (9, 0, 0)), ("entry", 0, 0)),
            ((None, (0, 4, True), (9, 0, 0)), ("entry", 1, 1)), ((None, None, (0, 0, None)), ("entry", 2, 2)),
            (((1, 0, ()), None, (0, 0, None)), ("entry", 0, 2)), (((0, 0, 0), None, (0, 1, 0)), ("entry", 2, 1)),
        ):
            self.assertEqual(wish_error(MACHINE, value), due, value)

    def test_items_more_and_fewer(self):
        for value in ((), WISH[:2], WISH + (None,), WISH * 2, (None,) * 4, (WISH,), list(WISH), dict(enumerate(WISH))):
            self.assertEqual(wish_error(MACHINE, value), "form", value)
        self.assertIsNone(wish_error(((8,), ()), (None,)))
        self.assertIsNone(wish_error(((8,), ()), ((7,),)))
        self.assertEqual(wish_error(((8,), ()), ((8,),)), ("entry", 0, 0))
        self.assertEqual(wish_error(((8,), ()), (7,)), ("row", 0))

    def test_values_of_other_kinds(self):
        for value in other_values():
            due = ("row", 0) if isinstance(value, tuple) and len(value) == 3 else "form"
            self.assertEqual(wish_error(MACHINE, value), due, repr(value)[:80])

    def test_true_is_not_one(self):
        for _ in range(2):
            self.assertIsNone(wish_error(MACHINE, ((1, 0, 0), None, None)))
            self.assertEqual(wish_error(MACHINE, ((True, 0, 0), None, None)), ("entry", 0, 0))
            self.assertEqual(wish_error(MACHINE, ((1, False, 0), None, None)), ("entry", 0, 1))


class Granted(unittest.TestCase):
    def check(self, machine, wish):
        """Check that there is a table or a paper; return the table, None if there is none."""
        papers = wish_papers(machine, wish)
        if papers:
            with self.assertRaises(Barred) as caught:
                granted(machine, wish)
            self.assertEqual(list(vars(caught.exception)), ["paper"])
            self.assertIn(repr(caught.exception.paper), {repr(paper) for paper in papers})
            self.assertIs(wish_holds(machine, wish, caught.exception.paper), True)
            return None
        table = granted(machine, wish)
        self.assertIsNone(table_error(machine, table))
        self.assertEqual([row if told is None else told for row, told in zip(table, wish)], list(table))
        self.assertEqual(table_papers(machine, table), [], (machine, wish, table))
        return table

    def test_drawn_wishes(self):
        random = Random(3)
        for machine in kinds_of_machines() + levelled_machines(count=60):
            for wish in drawn_wishes(random, machine, many=1):
                table = self.check(machine, wish)
                if table is not None and table != wish:
                    self.assertEqual(behind_deeds(machine, written(machine, table)), table)

    def test_rows_of_tables_that_are_done(self):
        random = Random(4)
        for machine in kinds_of_machines() + levelled_machines(count=60):
            table = table_of(machine, program_of(random, machine, 40))
            for wish in (with_rows(table, []), table, with_rows(table, [0]), some_rows(random, table)):
                self.assertIsNotNone(self.check(machine, wish))
            self.assertEqual(granted(machine, table), table)

    def test_all_wishes_of_small_machines(self):
        for machine in machines_of_few_tables(most=300, count=40, seed=6):
            tables = tables_done(machine)
            many = len(machine[0])
            for told in product((False, True), repeat=many):
                grants = {tuple(row if one else None for row, one in zip(table, told)) for table in tables}
                for wish in product(*[rows_of(machine, i) if told[i] else [None] for i in range(many)]):
                    table = self.check(machine, wish)
                    self.assertEqual(table is not None, wish in grants, (machine, wish))
                    if table is not None:
                        self.assertIn(table, tables)

    def test_rows_of_a_room_that_hang_on_one_another(self):
        for p, e in ((2, 1), (2, 99), (3, 4), (97, 15)):
            machine = ((p ** e,) * 3, around(3))
            for rows, grants in (
                (((p % p ** e, 0, 0), None, None), False), (((1, 1, 0), (p + 1, 1, 0), None), False),
                (((1, 1, 0), (1, 2, 0), None), True), (((1, 0, 1), None, (0, 1, 0)), True),
                ((None, None, (0, 0, 0)), False), (((1, 0, 0), (0, 1, 0), None), True), (((1, 2, 3), None, (2, 4, 6)),
                                                                                         False),
            ):
                wish = tuple(None if row is None else tuple(entry % p ** e for entry in row) for row in rows)
                self.assertEqual(self.check(machine, wish) is not None, grants, (p, e, rows))

    def test_the_same_rows_for_one_prime_and_not_for_another(self):
        machine = ((36, 36), all_wires(2))
        for row, grants in (((2, 3), True), ((2, 4), False), ((3, 6), False), ((6, 1), True), ((0, 35), True),
                            ((30, 18), False)):
            self.assertEqual(self.check(machine, (row, None)) is not None, grants)
            self.assertEqual(self.check(machine, (None, row)) is not None, grants)

    def test_a_room_of_a_higher_level_with_one_free_row(self):
        random = Random(5)
        for e in (2, 3, 30):
            machine = ((2 ** (e + 1), 2 ** e, 2 ** (e + 2)), all_wires(3))
            for _ in range(20):
                told = table_that_keeps_climbs(random, machine)
                told = tuple(with_entry(told, i, i, told[i][i] | 1)[i] for i in range(3))
                for free in range(3):
                    self.assertIsNotNone(self.check(machine, told[:free] + (None,) + told[free + 1:]))


class Holding(unittest.TestCase):
    def check(self, machine, wish, values):
        due = {repr(paper) for paper in wish_papers(machine, wish)}
        for value in values:
            self.assertIs(wish_holds(machine, wish, value), repr(value) in due, (machine, wish, value))

    def test_right_papers_hold(self):
        random = Random(6)
        kinds = Counter()
        for machine in kinds_of_machines() + levelled_machines():
            for wish in drawn_wishes(random, machine, many=1):
                for paper in wish_papers(machine, wish)[:60]:
                    self.assertIs(wish_holds(machine, wish, paper), True, (machine, wish, paper))
                    kinds[paper[0]] += 1
        self.assertGreater(min(kinds[word] for word in ("entry", "rows", "room")), 50)

    def test_turned_papers_against_the_words(self):
        random = Random(7)
        for machine in (MACHINE, MIXED, WAIST, RING, *small_machines(count=20, seed=3), *levelled_machines(count=8)):
            for wish in drawn_wishes(random, machine, many=1):
                papers = wish_papers(machine, wish)
                for paper in papers[:1] + papers[-1:] + [("entry", 1, 0), ("rows", 2, (0, 1)), ("room", 2, 1, (0, 1))]:
                    self.check(machine, wish, turned_papers(paper))

    def test_all_entries_and_rooms(self):
        random = Random(8)
        for machine in small_machines(count=25) + levelled_machines(count=12):
            many = len(machine[0])
            pairs = list(product(range(-1, many + 1), repeat=2))
            groups = [(), (0,), (1,), (0, 1), (1, 0), (0, 1, 2), (0, 0), (1, 2), (0, 2), tuple(range(many)), (many,)]
            for wish in drawn_wishes(random, machine, many=1):
                self.check(machine, wish, [("entry", i, j) for i, j in pairs])
                self.check(machine, wish, [("rows", p, room) for p in (1, 2, 3, 4, 5, 6, 7) for room in groups])
                self.check(machine, wish, [("room", p, t, room) for p in (2, 3) for t in range(6) for room in groups])

    def test_free_rows_have_no_papers(self):
        for machine in kinds_of_machines():
            wish = (None,) * len(machine[0])
            self.check(machine, wish, [("rows", 2, (0,)), ("rows", 2, (0, 1)), ("entry", 0, 1), ("room", 2, 0, (0,))])

    def test_a_room_without_told_rows(self):
        machine = ((4, 4, 4, 4), ((0, 1), (1, 0), (2, 3), (3, 2)))
        wish = ((2, 2, 0, 0), None, None, None)
        self.check(machine, wish, [("rows", 2, room) for room in ((0, 1), (2, 3), (0,), (1,), (0, 1, 2), (3, 2))])
        self.assertIs(wish_holds(machine, wish, ("rows", 2, (0, 1))), True)

    def test_true_is_not_one(self):
        machine, wish = ((9, 9), ()), ((3, 0), (0, 3))
        for right in (("rows", 3, (0,)), ("rows", 3, (1,)), ("room", 3, 0, (1,)), ("room", 3, 1, (0,))):
            self.assertIs(wish_holds(machine, wish, right), True)
        for wrong in (("rows", 3, (False,)), ("rows", 3, (True,)), ("rows", 3, [0]), ["rows", 3, (0,)],
                      ("rows", True, (0,)), ("rows", 3, 0), ("rows", 3, 0, (0,)), ("room", 3, (0,)),
                      ("room", 3, True, (0,)), ("room", 3, 0, (True,)), ("rows", 9, (0,)), ("rows", (3,), (0,)),
                      ("rows", 3, ((0,),)), ("rows", "3", (0,)), ("rows", None, (0,))):
            self.assertIs(wish_holds(machine, wish, wrong), False, wrong)

    def test_values_of_all_other_kinds(self):
        for machine, wish in ((MACHINE, ((2, 0, 0), None, (1, 0, 1))), (((8,), ()), ((0,),)), (((8,), ()), (None,))):
            due = {repr(paper) for paper in wish_papers(machine, wish)}
            for value in other_values():
                self.assertIs(wish_holds(machine, wish, value), False)
                for odd in (("entry", value, 0), ("entry", 2, value), ("rows", value, (0,)), ("rows", 2, value),
                            ("rows", 2, (value,)), ("room", value, 0, (0,)), ("room", 2, value, (0,)),
                            ("room", 2, 0, value),
                            ("room", 2, 0, (value,)), (value, 2, 0), (value, 2, (0,)), (value, 2, 0, (0,)),
                            (value,) * 3):
                    self.assertIs(wish_holds(machine, wish, odd), repr(odd) in due, odd)

    def test_papers_of_tables_are_papers_of_wishes(self):
        random = Random(9)
        for machine in small_machines() + levelled_machines():
            table = table_by_words(random, machine)
            for paper in table_papers(machine, table)[:20]:
                self.assertIs(wish_holds(machine, table, paper), True)
            for value in (("entry", 0, 1), ("room", 2, 0, (0,)), ("room", 2, 1, (0, 1)), ("room", 3, 0, (1,))):
                self.assertIs(wish_holds(machine, table, value), paper_holds(machine, table, value))


class Counts(unittest.TestCase):
    def test_against_all_tables_of_small_machines(self):
        for machine in machines_of_few_tables(most=300, count=50, seed=7) + [((4, 4), all_wires(2)),
                                                                             ((8, 4), all_wires(2))]:
            tables, many = tables_done(machine), len(machine[0])
            for told in product((False, True), repeat=many):
                due = Counter(tuple(row if one else None for row, one in zip(table, told)) for table in tables)
                for wish in product(*[rows_of(machine, i) if told[i] else [None] for i in range(many)]):
                    self.assertEqual(wish_count(machine, wish), due[wish], (machine, wish))

    def test_nought_just_where_there_is_a_paper(self):
        random = Random(10)
        for machine in kinds_of_machines() + levelled_machines():
            for wish in drawn_wishes(random, machine, many=1):
                count = wish_count(machine, wish)
                self.assertIs(type(count), int)
                self.assertEqual(count == 0, wish_papers(machine, wish) != [])

    def test_without_told_rows_and_with_all(self):
        random = Random(11)
        for machine in kinds_of_machines() + levelled_machines():
            self.assertEqual(wish_count(machine, (None,) * len(machine[0])), table_count(machine))
            for _ in range(3):
                table = turned_somewhere(random, machine, table_of(machine, program_of(random, machine, 20)))
                self.assertEqual(wish_count(machine, table), int(is_done(machine, table)))

    def test_all_rows_that_one_free_row_can_be(self):
        random = Random(12)
        for machine in machines_of_few_tables(most=10 ** 5, count=25, seed=8) + [MACHINE, ((8, 8), all_wires(2))]:
            for wish in drawn_wishes(random, machine, many=1):
                for i, row in enumerate(wish):
                    if row is None and len(rows_of(machine, i)) <= 300:
                        parts = [wish_count(machine, wish[:i] + (one,) + wish[i + 1:]) for one in rows_of(machine, i)]
                        self.assertEqual(sum(parts), wish_count(machine, wish), (machine, wish, i))

    def test_all_tables_have_one_each(self):
        for machine in machines_of_few_tables(most=200, count=20, seed=9):
            found = sum(wish_count(machine, table) for table in all_tables(machine))
            self.assertEqual(found, table_count(machine))


class Calls(unittest.TestCase):
    def test_nothing_that_is_handed_in_is_changed(self):
        for value in (["entry", [0], 1], ("rows", 2, [0, 1]), ("room", [2], {0: [1]}, [0]), [WISH, [None]]):
            told = [MACHINE, WISH, value]
            same = deepcopy(told)
            self.assertIs(wish_holds(*told), False)
            self.assertIs(wish_holds(value=told[2], wish=told[1], machine=told[0]), False)
            self.assertIsNotNone(wish_error(MACHINE, value))
            self.assertEqual(granted(*told[:2]), granted(wish=WISH, machine=MACHINE))
            self.assertEqual(wish_count(*told[:2]), wish_count(wish=WISH, machine=MACHINE))
            self.assertEqual(repr(told), repr(same))

    def test_equal_calls_get_equal_results(self):
        random = Random(13)
        for machine in (MACHINE, MIXED, WAIST, *levelled_machines(count=10)):
            for wish in drawn_wishes(random, machine, many=2):
                found = []
                for _ in range(2):
                    try:
                        found.append(repr(granted(machine, wish)))
                    except Barred as error:
                        found.append(repr(error.paper))
                self.assertEqual(found[0], found[1])
