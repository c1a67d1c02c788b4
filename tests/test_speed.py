"""Every call ends soon, also at the greatest sizes, with six registers and with all wires."""

import unittest
from random import Random
from time import perf_counter

from narrowadds.adding import adding
from narrowadds.barring import is_done, paper_holds
from narrowadds.benches import Bench
from narrowadds.bounds import MAX_EDITS
from narrowadds.counts import table_count, undone_count
from narrowadds.errors import BadLog
from narrowadds.leading import apart_holds, are_joined, way
from narrowadds.logs import bench_behind, log_text, read_log
from narrowadds.machines import primes_of
from narrowadds.programs import backward, program_error, run
from narrowadds.programtexts import program_text, read_program
from narrowadds.roads import climb, least_factor, road
from narrowadds.rooms import mark, rooms, round_trip, telling
from narrowadds.shares import class_size, gives, rested, shares
from narrowadds.shells import Shell
from narrowadds.tables import can_be_undone, power, table_error, table_of, undone
from narrowadds.wiring import does_all, lean, spare
from narrowadds.wishes import granted, wish_count, wish_error, wish_holds
from narrowadds.writing import written
from tests.machinery import contents_of, great_machines, levelled_machines, program_of, rows_of_contents

# Far more than any of them takes, so that a busy machine does not make a test fail.
SECONDS = 2


class Speed(unittest.TestCase):
    def soon(self, function, *told):
        start = perf_counter()
        found = function(*told)
        self.assertLess(perf_counter() - start, SECONDS, (function.__name__, str(told)[:200]))
        return found

    def test_programs_and_tables(self):
        random = Random(1)
        for machine in great_machines():
            program = program_of(random, machine, 1000)
            self.soon(program_error, machine, program)
            self.soon(read_program, machine, self.soon(program_text, program))
            self.soon(run, machine, program, contents_of(random, machine))
            table = self.soon(table_of, machine, program)
            self.soon(table_error, machine, table)
            self.soon(power, machine, table, 10 ** 30 - 1)
            self.assertTrue(self.soon(can_be_undone, machine, table))
            self.assertEqual(self.soon(undone, machine, table), table_of(machine, backward(program)))

    def test_roads(self):
        for machine in great_machines():
            many = len(machine[0])
            if many > 1:
                self.soon(least_factor, machine, 0, many - 1)
                for p in primes_of(machine):
                    self.soon(climb, machine, p, many - 1, 0)
                    self.soon(road, machine, p, 0, many - 1)

    def test_wires(self):
        for machine in great_machines():
            self.soon(does_all, machine, machine)
            self.soon(does_all, machine, self.soon(lean, machine))
            self.soon(spare, machine)

    def test_rooms_and_marks(self):
        random = Random(2)
        for machine in great_machines():
            table = table_of(machine, program_of(random, machine, 30))
            for p in primes_of(machine):
                if len(machine[0]) > 1:
                    self.soon(round_trip, machine, p, 0, len(machine[0]) - 1)
                for t in (0, 1, 98, 10 ** 399):
                    self.soon(rooms, machine, p, t)
                    for room in self.soon(telling, machine, p, t):
                        self.soon(mark, machine, table, p, t, room)

    def test_additions(self):
        for machine in great_machines():
            many = len(machine[0])
            if many > 1:
                least = least_factor(machine, 0, many - 1)
                self.soon(adding, machine, 0, many - 1, 10 ** 60 // least * least)

    def test_shares_and_classes(self):
        random = Random(3)
        for machine in great_machines():
            contents = contents_of(random, machine)
            for function in (shares, gives, class_size, rested):
                self.soon(function, machine, contents)

    def test_programs_from_tables(self):
        random = Random(4)
        for machine in great_machines() + levelled_machines():
            table = table_of(machine, program_of(random, machine, 1000))
            self.assertIs(self.soon(is_done, machine, table), True)
            program = self.soon(written, machine, table)
            self.assertIsNone(self.soon(program_error, machine, program))
            self.assertEqual(self.soon(table_of, machine, program), table)
            for value in (("entry", 0, 1), ("room", 2, 98, (0,)), ("room", 2, 10 ** 399, (0, 1)), ("room",) * 3999):
                self.assertIs(self.soon(paper_holds, machine, table, value), False)

    def test_counts(self):
        for machine in great_machines() + levelled_machines():
            self.soon(table_count, machine)
            self.soon(undone_count, machine)

    def test_wishes(self):
        random = Random(5)
        for machine in great_machines() + levelled_machines():
            table = table_of(machine, program_of(random, machine, 100))
            for wish in (table, (None,) * len(table), (None,) + table[1:], table[:1] + (None,) * (len(table) - 1)):
                self.assertIsNone(self.soon(wish_error, machine, wish))
                self.soon(granted, machine, wish)
                self.soon(wish_count, machine, wish)
                for value in (("rows", 2, (0,)), ("room", 2, 98, (0,)), ("room", 2, 10 ** 399, (0, 1)), ("rows",) * 3999):
                    self.assertIs(self.soon(wish_holds, machine, wish, value), False)

    def test_ways(self):
        random = Random(6)
        for machine in great_machines() + levelled_machines():
            for one in rows_of_contents(random, machine)[::5]:
                other = run(machine, program_of(random, machine, 100), one)
                self.assertIs(self.soon(are_joined, machine, one, other), True)
                self.assertEqual(run(machine, self.soon(way, machine, one, other), one), other)
                for value in (("share", 0), ("rest", 0), ("rest",) * 3999):
                    self.assertIs(self.soon(apart_holds, machine, one, other, value), False)

    def test_benches(self):
        random = Random(7)
        for machine in [machine for machine in great_machines() if machine[1]][::4]:
            bench, program = Bench(machine), program_of(random, machine, 1000)
            for name in "abcdefgh":
                self.soon(bench.keep, name, program)
            for _ in range(8, MAX_EDITS):
                self.soon(bench.batch, tuple(("add", "a", program[0]) for _ in range(12)))
            self.soon(bench.table, "a")
            self.soon(bench.alike, "a", "b")
            text = self.soon(log_text, bench.log)
            self.assertEqual(self.soon(read_log, text), bench.log)
            self.assertEqual(self.soon(bench_behind, machine, bench.log), bench)
            for _ in range(MAX_EDITS):
                self.soon(bench.undo)

    def test_texts_of_thousands_of_signs(self):
        for line in ("(" * 19000, ")" * 19000, "9" * 19000, "(cut," + "(a)," * 4000, "(batch,(" + "()," * 5000 + "()))", "-" * 19000):
            try:
                self.soon(read_log, line + "\n")
            except BadLog:
                pass
            self.soon(Shell(((8, 8), ((0, 1),))).say, "keep a " + line)
            self.soon(Shell(((8, 8), ((0, 1),))).say, "run a " + line)
        self.soon(read_log, "(cut,a)\n" * 2500)
        shell = Shell(((8, 8), ((0, 1),)))
        self.assertEqual(self.soon(shell.say, "keep a " + " ".join(["0>1*3"] * 3000)), "version 1")
        self.soon(shell.say, "show a")
        self.soon(shell.say, "table a")
