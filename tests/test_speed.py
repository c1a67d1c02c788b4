"""Every call ends soon, also at the greatest sizes, with six registers and with all wires."""

import unittest
from random import Random
from time import perf_counter

from narrowadds.adding import adding
from narrowadds.barring import is_done, paper_holds
from narrowadds.counts import table_count, undone_count
from narrowadds.machines import primes_of
from narrowadds.programs import backward, program_error, run
from narrowadds.programtexts import program_text, read_program
from narrowadds.roads import climb, least_factor, road
from narrowadds.rooms import mark, rooms, round_trip, telling
from narrowadds.shares import class_size, gives, rested, shares
from narrowadds.tables import can_be_undone, power, table_error, table_of, undone
from narrowadds.wiring import does_all, lean, spare
from narrowadds.wishes import granted, wish_count, wish_error, wish_holds
from narrowadds.writing import written
from tests.machinery import contents_of, great_machines, levelled_machines, program_of

# Far more than any of them takes, so that a busy machine does not make a test fail.
SECONDS = 2


class Speed(unittest.TestCase):
    def soon(self, function, *told):
        start = perf_counter()
        found = function(*told)
        self.assertLess(perf_counter() - start, SECONDS, (function.__name__, str(told)[:200]))
        return found

    def test_programs_and_tables(self):
        random = Random(1)
        for machine in great_machines():
            program = program_of(random, machine, 1000)
            self.soon(program_error, machine, program)
            self.soon(read_program, machine, self.soon(program_text, program))
            self.soon(run, machine, program, contents_of(random, machine))
            table = self.soon(table_of, machine, program)
            self.soon(table_error, machine, table)
            self.soon(power, machine, table, 10 ** 30 - 1)
            self.assertTrue(self.soon(can_be_undone, machine, table))
            self.assertEqual(self.soon(undone, machine, table), table_of(machine, backward(program)))

    def test_roads(self):
        for machine in great_machines():
            many = len(machine[0])
            if many > 1:
                self.soon(least_factor, machine, 0, many - 1)
                for p in primes_of(machine):
                    self.soon(climb, machine, p, many - 1, 0)
                    self.soon(road, machine, p, 0, many - 1)

    def test_wires(self):
        for machine in great_machines():
            self.soon(does_all, machine, machine)
            self.soon(does_all, machine, self.soon(lean, machine))
            self.soon(spare, machine)

    def test_rooms_and_marks(self):
        random = Random(2)
        for machine in great_machines():
            table = table_of(machine, program_of(random, machine, 30))
            for p in primes_of(machine):
                if len(machine[0]) > 1:
                    self.soon(round_trip, machine, p, 0, len(machine[0]) - 1)
                for t in (0, 1, 98, 10 ** 399):
                    self.soon(rooms, machine, p, t)
                    for room in self.soon(telling, machine, p, t):
                        self.soon(mark, machine, table, p, t, room)

    def test_additions(self):
        for machine in great_machines():
            many = len(machine[0])
            if many > 1:
                least = least_factor(machine, 0, many - 1)
                self.soon(adding, machine, 0, many - 1, 10 ** 60 // least * least)

    def test_shares_and_classes(self):
        random = Random(3)
        for machine in great_machines():
            contents = contents_of(random, machine)
            for function in (shares, gives, class_size, rested):
                self.soon(function, machine, contents)

    def test_programs_from_tables(self):
        random = Random(4)
        for machine in great_machines() + levelled_machines():
            table = table_of(machine, program_of(random, machine, 1000))
            self.assertIs(self.soon(is_done, machine, table), True)
            program = self.soon(written, machine, table)
            self.assertIsNone(self.soon(program_error, machine, program))
            self.assertEqual(self.soon(table_of, machine, program), table)
            for value in (("entry", 0, 1), ("room", 2, 98, (0,)), ("room", 2, 10 ** 399, (0, 1)), ("room",) * 3999):
                self.assertIs(self.soon(paper_holds, machine, table, value), False)

    def test_counts(self):
        for machine in great_machines() + levelled_machines():
            self.soon(table_count, machine)
            self.soon(undone_count, machine)

    def test_wishes(self):
        random = Random(5)
        for machine in great_machines() + levelled_machines():
            table = table_of(machine, program_of(random, machine, 100))
            for wish in (table, (None,) * len(table), (None,) + table[1:], table[:1] + (None,) * (len(table) - 1)):
                self.assertIsNone(self.soon(wish_error, machine, wish))
                self.soon(granted, machine, wish)
                self.soon(wish_count, machine, wish)
                for value in (("rows", 2, (0,)), ("room", 2, 98, (0,)), ("room", 2, 10 ** 399, (0, 1)), ("rows",) * 3999):
                    self.assertIs(self.soon(wish_holds, machine, wish, value), False)
