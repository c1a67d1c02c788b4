import unittest
from copy import deepcopy
from random import Random

from narrowadds import errors
from narrowadds.benches import Bench
from narrowadds.bounds import BATCH, MAX_EDITS, MAX_FACTOR, MAX_NAMES
from narrowadds.errors import AddsError, BadMachine, NoName, Unfit
from narrowadds.machines import machine_error
from narrowadds.programs import backward
from narrowadds.shells import Shell
from narrowadds.tables import table_of
from tests.bench_words import (
    MACHINES, Words, any_call, done, due, odd_batches, odd_deeds, odd_names, odd_programs, shown,
)
from tests.examples import check_examples
from tests.machinery import MACHINE, MIXED, all_wires, program_of
from tests.values import nested, other_values

EXAMPLES = """
    >>> from narrowadds.benches import Bench
    >>> machine = ((8, 4, 8), ((0, 1), (1, 0), (1, 2), (2, 0)))
    >>> b = Bench(machine)
    >>> [b.keep("spin", ((0, 1, 3), (1, 0, 2))), b.keep("back", ((1, 0, -2), (0, 1, -3))), len(b), list(b), b["back"], b.version]
    [1, 2, 2, ['back', 'spin'], ((1, 0, -2), (0, 1, -3)), 2]
    >>> [b.table("spin"), b.alike("spin", "back"), b.made, b.add("back", (0, 1, 4)), b.alike("back", "back"), b.made]
    [((7, 2, 0), (3, 1, 0), (0, 0, 1)), False, 2, 3, True, 3]
    >>> [b.cut("back"), b.table("back"), b.made, b.undo(), b.redo(), b.at(1)]
    [4, ((1, 6, 0), (1, 3, 0), (0, 0, 1)), 3, 3, 4, (('spin', ((0, 1, 3), (1, 0, 2))),)]
    >>> b.add("spin", (0, 2, 1))
    raises BadProgram(('deed', 2))
    >>> b.batch((("cut", "spin"), ("drop", "four")))
    raises Rejected(1)
    >>> Bench(((8,), ((0, 1),)))
    raises BadMachine(('wire', 0))
"""
SPIN, BACK = ((0, 1, 3), (1, 0, 2)), ((1, 0, -2), (0, 1, -3))


def bench_of(*names):
    """Return a bench with SPIN under each of names."""
    bench = Bench(MACHINE)
    for name in names:
        bench.keep(name, SPIN)
    return bench


def full_bench(many=MAX_EDITS):
    """Return a bench on which so many edits stand, with the program "a" of three deeds at least."""
    bench = Bench(MACHINE)
    bench.keep("a", SPIN)
    for _ in range(many - 1):
        bench.add("a", (0, 1, 1))
    return bench


class Case(unittest.TestCase):
    def raises(self, told, function, *arguments):
        """Check that function raises the error told, a class's name and its field, which is the very thing."""
        with self.assertRaises(AddsError) as caught:
            function(*arguments)
        found = (caught.exception.__class__.__name__, *vars(caught.exception).values())
        self.assertEqual(repr(found), repr(told))
        if told[1:] and told[0] in ("NoName", "Taken", "NoVersion"):
            self.assertIs(found[1], told[1])

    def same(self, bench, words):
        self.assertEqual(repr(shown(bench)), repr(due(words)))


class Examples(unittest.TestCase):
    def test_examples_of_the_document(self):
        check_examples(self, EXAMPLES)


class Making(Case):
    def test_a_new_bench_is_empty(self):
        for machine in MACHINES + [((8,), ()), ((10 ** 30,) * 6, ())]:
            bench = Bench(machine)
            self.assertEqual(shown(bench), (machine, (), 0, (), 0, 0, [], [], [()]))
            self.assertIs(bench.machine, machine)
            self.assertEqual(shown(Bench(machine=machine)), shown(bench))

    def test_values_that_are_no_machine(self):
        odd = [((8, 4), [(0, 1)]), ((8, 101), ()), ((8, 4), ((0, 1), (0, 1))), ((True, 4), ()), ((8,), ((0, 1),)),
               ((2,) * 7, ()), ((8, 4), ((1, 0), (0, 1))), nested(19, lambda part: (part,)), [(8, 4), ()], "8 4:"]
        for value in odd + other_values():
            if machine_error(value) is not None:
                self.raises(("BadMachine", machine_error(value)), Bench, value)
        with self.assertRaises(BadMachine):
            Bench(machine=bench_of())

    def test_properties_can_only_be_read(self):
        bench = bench_of("a")
        before = repr(shown(bench))
        for name in ("machine", "shelf", "version", "log", "made"):
            for worth in (None, 0, (), getattr(bench, name)):
                with self.assertRaises(AttributeError):
                    setattr(bench, name, worth)
        self.assertEqual(repr(shown(bench)), before)

    def test_methods_are_defined_in_the_class(self):
        for name in ("keep", "drop", "add", "cut", "batch", "table", "alike", "undo", "redo", "at", "copy", "attempt",
                     "machine", "shelf", "version", "log", "made", "__len__", "__contains__", "__getitem__", "__iter__",
                     "__eq__", "__ne__"):
            self.assertIn(name, vars(Bench))


class Reading(Case):
    def test_names_and_programs(self):
        bench = bench_of("spin", "a", "zz", "abcdefgh")
        self.assertEqual((len(bench), list(bench), sorted(bench)), (4, ["a", "abcdefgh", "spin", "zz"], sorted(bench)))
        self.assertEqual(bench.shelf, tuple((name, SPIN) for name in bench))
        for name in bench:
            self.assertIs(name in bench, True)
            self.assertEqual(bench[name], SPIN)
        for value in odd_names() + [one for one in other_values() if one != "a"] + ["b", "spi", "spin ", bench, Bench]:
            self.assertIs(value in bench, False)
            self.raises(("NoName", value), bench.__getitem__, value)
            with self.assertRaises(NoName) as caught:
                bench[value]
            self.assertIs(caught.exception.given, value)

    def test_iterating_anew_each_time(self):
        bench = bench_of("b", "a")
        one, other = iter(bench), iter(bench)
        self.assertEqual([next(one), next(other), next(one), next(other)], ["a", "a", "b", "b"])
        self.assertEqual((list(one), list(bench), [*bench], tuple(bench)), ([], ["a", "b"], ["a", "b"], ("a", "b")))
        self.assertEqual(list(Bench(MACHINE)), [])

    def test_equal_benches(self):
        one, other = bench_of("a", "b"), bench_of("b", "a")
        other.keep("c", ())
        self.assertEqual((one == other, one != other, other == one), (False, True, False))
        other.drop("c")
        self.assertEqual((one == other, one != other, other == one, one == one), (True, False, True, True))
        one.table("a")
        one.undo()
        one.redo()
        self.assertIs(one == other, True)
        one.add("a", (0, 1, 4))
        self.assertEqual((one == other, one != other), (False, True))

    def test_unlike_machines_make_benches_unlike(self):
        for machine in (((8, 4, 8), ()), ((8, 4), ()), ((8, 4, 8), MACHINE[1][:3]), MIXED):
            self.assertEqual((Bench(MACHINE) == Bench(machine), Bench(MACHINE) != Bench(machine)), (False, True))
        self.assertIs(Bench(MACHINE) == Bench(deepcopy(MACHINE)), True)

    def test_a_bench_equals_nothing_else(self):
        bench = bench_of("a")
        for value in other_values() + [bench.shelf, ("a",), ["a"], {"a": SPIN}, MACHINE, Shell(MACHINE), Bench,
                                       bench.shelf[0]]:
            self.assertEqual((bench == value, value == bench, bench != value, value != bench),
                             (False, False, True, True))
            self.assertIs(bench in [value], False)


class Edits(Case):
    def test_rows_of_edits_against_the_words(self):
        for seed in range(120):
            random = Random(seed)
            machine = random.choice(MACHINES)
            names = random.sample(["a", "b", "spin", "zz", "abcdefgh", "nonea", "c", "d", "e", "f"],
                                  random.choice((2, 5, 10)))
            bench, words = Bench(machine), Words(machine)
            for _ in range(random.choice((30, 60, 150))):
                call = any_call(random, machine, names)
                self.assertEqual(repr(done(bench, *call)), repr(words.do(*call)), call)
                if random.random() < 0.3:
                    self.same(bench, words)
            self.same(bench, words)

    def test_names(self):
        for name in ("a", "z", "nonea", "non", "abcdefgh", "zzzzzzzz", "nones", "anone", "no"):
            bench = Bench(MACHINE)
            self.assertEqual((bench.keep(name, SPIN), bench.shelf), (1, ((name, SPIN),)))
        for value in odd_names():
            bench = bench_of("a")
            self.raises(("Unfit",), bench.keep, value, SPIN)
            self.raises(("Unfit",), bench.keep, value, None)
            for word, told in (("drop", ()), ("cut", ()), ("add", ((0, 1, 3),)), ("add", (None,))):
                self.raises(("NoName", value), getattr(bench, word), value, *told)
            self.assertEqual(bench.version, 1)

    def test_programs_with_something_wrong(self):
        for machine in MACHINES:
            bench = Bench(machine)
            bench.keep("a", ())
            for value in odd_programs(machine):
                with self.assertRaises(errors.BadProgram) as caught:
                    bench.keep("b", value)
                self.assertIn(caught.exception.error[:1], ("f", ("deed",)))
                with self.assertRaises(errors.BadProgram):
                    bench.keep("a", value)
            for value in odd_deeds(machine):
                self.raises(("BadProgram", ("deed", 0)), bench.add, "a", value)
            self.assertEqual((bench.version, bench.shelf), (1, (("a", ()),)))

    def test_the_place_of_a_wrong_deed(self):
        bench = Bench(MACHINE)
        bench.keep("a", SPIN)
        self.raises(("BadProgram", ("deed", 2)), bench.add, "a", (0, 2, 1))
        self.raises(("BadProgram", ("deed", 1)), bench.keep, "b", (SPIN[0], (1, 0, 3), (0, 2, 1)))
        self.raises(("BadProgram", "form"), bench.keep, "b", list(SPIN))
        self.raises(("BadProgram", ("deed", 0)), bench.keep, "b", SPIN[0])

    def test_factors_at_the_bound(self):
        bench = Bench(MACHINE)
        for c in (MAX_FACTOR, -MAX_FACTOR):
            bench.keep("a", ((0, 1, c),))
            bench.add("a", (1, 2, c))
            self.raises(("BadProgram", ("deed", 2)), bench.add, "a", (0, 1, c + (1 if c > 0 else -1)))
            self.raises(("BadProgram", ("deed", 0)), bench.keep, "b", ((0, 1, c * 2),))
            self.assertEqual(bench["a"], ((0, 1, c), (1, 2, c)))
            bench.drop("a")

    def test_what_comes_of_each(self):
        bench = Bench(MACHINE)
        self.assertEqual([bench.keep("a", SPIN), bench.add("a", (2, 0, 5)), bench["a"]], [1, 2, SPIN + ((2, 0, 5),)])
        self.assertEqual([bench.cut("a"), bench.cut("a"), bench.cut("a"), bench["a"]], [3, 4, 5, ()])
        self.raises(("Unfit",), bench.cut, "a")
        self.assertEqual([bench.drop("a"), bench.shelf, "a" in bench], [6, (), False])
        self.raises(("NoName", "a"), bench.drop, "a")
        self.assertEqual(bench.log, (("keep", "a", SPIN), ("add", "a", (2, 0, 5)), ("cut", "a"), ("cut", "a"),
                                     ("cut", "a"), ("drop", "a")))

    def test_the_log_has_what_was_handed_in(self):
        bench, program, deed, edits = Bench(MACHINE), ((0, 1, 7),), (1, 0, -2), (("cut", "a"), ("keep", "b", ()))
        bench.keep(program=program, name="a")
        bench.add(deed=deed, name="a")
        bench.batch(edits=edits)
        self.assertEqual(bench.log, (("keep", "a", program), ("add", "a", deed), ("batch", edits)))
        self.assertIs(bench.log[0][2], program)
        self.assertIs(bench.log[1][2], deed)
        self.assertIs(bench.log[2][1], edits)

    def test_the_ninth_name(self):
        bench = bench_of(*"abcdefgh")
        self.raises(("TooMany", MAX_NAMES), bench.keep, "i", SPIN)
        self.raises(("Taken", "a"), bench.keep, "a", SPIN)
        self.raises(("Unfit",), bench.keep, "none", SPIN)
        self.raises(("BadProgram", "form"), bench.keep, "i", None)
        self.raises(("Rejected", 0), bench.batch, (("keep", "i", ()),))
        self.assertEqual(bench.batch((("drop", "c"), ("keep", "i", ()))), 9)
        self.assertEqual(list(bench), list("abdefghi"))

    def test_errors_in_the_order_told(self):
        bench = bench_of("a")
        self.raises(("Unfit",), bench.keep, "none", None)
        self.raises(("BadProgram", "form"), bench.keep, "a", None)
        self.raises(("Taken", "a"), bench.keep, "a", ())
        self.raises(("NoName", "b"), bench.add, "b", None)
        self.raises(("BadProgram", ("deed", 2)), bench.add, "a", None)

    def test_the_forty_first_edit(self):
        bench = full_bench()
        before = repr(shown(bench))
        for word, told in (("keep", ("b", ())), ("drop", ("a",)), ("add", ("a", (0, 1, 1))), ("cut", ("a",)),
                           ("batch", ((),)), ("batch", ((("cut", "a"),),))):
            self.raises(("TooManyEdits",), getattr(bench, word), *told)
        self.raises(("Unfit",), bench.keep, "none", ())
        self.raises(("BadProgram", "form"), bench.keep, "b", [])
        self.raises(("Taken", "a"), bench.keep, "a", ())
        self.raises(("NoName", "b"), bench.drop, "b")
        self.raises(("NoName", "b"), bench.cut, "b")
        self.raises(("BadProgram", ("deed", 41)), bench.add, "a", None)
        self.raises(("BadBatch",), bench.batch, [])
        self.raises(("Rejected", 1), bench.batch, (("cut", "a"), ("drop", "b")))
        self.assertEqual(repr(shown(bench)), before)
        self.assertEqual([bench.undo(), bench.drop("a"), bench.version], [39, 40, 40])
        self.raises(("NothingToRedo",), bench.redo)
        self.raises(("TooManyEdits",), bench.batch, ())

    def test_a_bound_of_names_and_an_empty_program_at_the_fortieth(self):
        bench = bench_of(*"abcdefgh")
        for _ in range(16):
            bench.cut("a") if len(bench["a"]) else bench.batch(())
        for _ in range(16):
            bench.batch(())
        self.assertEqual(bench.version, MAX_EDITS)
        self.raises(("TooMany", 8), bench.keep, "i", ())
        self.raises(("Unfit",), bench.cut, "a")


class Batches(Case):
    def test_of_no_part_to_twelve(self):
        for many in range(BATCH + 1):
            bench = bench_of("a")
            edits = tuple(("add", "a", (0, 1, place)) for place in range(many))
            self.assertEqual(bench.batch(edits), 2)
            self.assertEqual(bench["a"], SPIN + tuple((0, 1, place) for place in range(many)))
            self.assertEqual((bench.undo(), bench["a"], bench.redo(), len(bench["a"])), (1, SPIN, 2, 2 + many))
        self.raises(("BadBatch",), bench.batch, tuple(("add", "a", (0, 1, 0)) for _ in range(BATCH + 1)))

    def test_what_is_none(self):
        bench = bench_of("a")
        before = repr(shown(bench))
        for value in odd_batches() + [one for one in other_values() if one != ()]:
            self.raises(("BadBatch",), bench.batch, value)
        self.assertEqual(repr(shown(bench)), before)

    def test_the_form_of_all_parts_goes_ahead(self):
        bench = bench_of("a")
        self.raises(("BadBatch",), bench.batch, (("drop", "b"), ("cut",)))
        self.raises(("Rejected", 0), bench.batch, (("drop", "b"), ("cut", "b")))

    def test_one_part_refused_changes_nothing(self):
        for place in range(BATCH):
            for odd in (("keep", "a", ()), ("keep", "none", ()), ("keep", "c", None), ("drop", "c"), ("cut", "c"),
                        ("add", "a", None), ("add", ["a"], (0, 1, 0)), ("cut", "e")):
                bench = bench_of("a", "b")
                bench.keep("e", ())
                bench.undo()
                bench.redo()
                bench.keep("x", ())
                bench.undo()
                before = repr(shown(bench))
                edits = [("add", "b", (0, 1, 1))] * BATCH
                edits[place] = odd
                self.raises(("Rejected", place), bench.batch, tuple(edits))
                self.assertEqual(repr(shown(bench)), before)
                self.assertEqual(bench.redo(), 4)

    def test_parts_know_what_those_ahead_did(self):
        bench = bench_of("a")
        self.assertEqual(bench.batch((("drop", "a"), ("keep", "a", ()), ("add", "a", (0, 1, 3)), ("keep", "b", SPIN),
                                      ("cut", "b"))), 2)
        self.assertEqual(bench.shelf, (("a", ((0, 1, 3),)), ("b", SPIN[:1])))
        self.raises(("Rejected", 1), bench.batch, (("drop", "a"), ("add", "a", (0, 1, 3))))
        self.raises(("Rejected", 2), bench.batch, (("cut", "a"), ("keep", "c", ()), ("cut", "a")))
        self.raises(("Rejected", 1), bench.batch, (("keep", "c", ()), ("keep", "c", ())))

    def test_the_bound_of_names_within(self):
        bench = bench_of(*"abcdefg")
        self.raises(("Rejected", 1), bench.batch, (("keep", "h", ()), ("keep", "i", ()), ("drop", "a")))
        self.assertEqual(bench.batch((("keep", "h", ()), ("drop", "a"), ("keep", "i", ()))), 8)

    def test_the_parts_raise_no_too_many_edits(self):
        bench = full_bench(MAX_EDITS - 1)
        self.assertEqual(bench.batch(tuple(("add", "a", (0, 1, place)) for place in range(12))), MAX_EDITS)
        self.raises(("TooManyEdits",), bench.batch, (("cut", "a"),))


class Tables(Case):
    def test_tables_are_those_of_the_programs(self):
        random = Random(1)
        for machine in MACHINES:
            bench = Bench(machine)
            programs = [program_of(random, machine, many) for many in (0, 1, 5, 1000)]
            for name, program in zip("abcd", programs):
                bench.keep(name, program)
            for name, program in zip("abcd", programs):
                self.assertEqual(bench.table(name), table_of(machine, program))
            for one, first in zip("abcd", programs):
                for other, second in zip("abcd", programs):
                    same = table_of(machine, first) == table_of(machine, second)
                    self.assertIs(bench.alike(one, other), same)
                    self.assertIs(bench.alike(other=other, one=one), same)

    def test_made_counts_unlike_programs(self):
        bench = bench_of("a", "b")
        self.assertEqual([bench.table("a"), bench.made, bench.table("b"), bench.made],
                         [bench.table("a"), 1, bench.table("a"), 1])
        bench.keep("c", BACK)
        self.assertEqual((bench.made, bench.alike("a", "c"), bench.made, bench.alike("c", "b"), bench.made),
                         (1, False, 2, False, 2))
        bench.keep("d", SPIN + ((0, 1, 4),))
        self.assertEqual((bench.alike("a", "d"), bench.made), (True, 3))

    def test_unlike_programs_with_one_table_are_two(self):
        bench = Bench(MACHINE)
        for name, c in zip("abc", (3, 7, -1)):
            bench.keep(name, ((0, 1, c),))
        self.assertEqual((bench.alike("a", "b"), bench.made, bench.alike("a", "c"), bench.made, bench.table("c")),
                         (True, 2, True, 3, bench.table("a")))

    def test_a_call_that_raises_makes_nothing(self):
        bench = bench_of("a")
        for told in (("a", "b"), ("b", "a"), ("b", "c"), ("a", None), (["a"], "a")):
            self.raises(("NoName", told[0] if told[0] != "a" else told[1]), bench.alike, *told)
        for name in odd_names():
            self.raises(("NoName", name), bench.table, name)
            self.raises(("NoName", name), bench.alike, "a", name)
        self.assertEqual(bench.made, 0)
        self.assertEqual((bench.table(name="a"), bench.made), (table_of(MACHINE, SPIN), 1))

    def test_made_is_kept_whatever_is_edited(self):
        bench = bench_of("a", "b")
        bench.table("a")
        for act in (lambda: bench.add("a", (0, 1, 4)), bench.undo, bench.redo, lambda: bench.drop("a"),
                    lambda: bench.keep("c", SPIN), lambda: bench.table("c"), lambda: bench.table("b"), bench.undo,
                    bench.undo, bench.undo, bench.undo):
            act()
            self.assertEqual(bench.made, 1)
        with self.assertRaises(Unfit):
            bench.attempt(lambda held: (held.add("b", (0, 1, 4)) if "b" in held else held.keep("d", BACK),
                                        held.table(list(held)[-1]), held.keep("none", ())))
        self.assertEqual(bench.made, 2)
        other = bench.copy()
        self.assertEqual(other.made, 2)
        other.keep("e", ())
        other.table("e")
        self.assertEqual((bench.made, other.made), (2, 3))

    def test_tables_are_no_edits(self):
        bench = bench_of("a", "b")
        bench.undo()
        bench.table("a")
        bench.alike("a", "a")
        self.assertEqual((bench.version, bench.redo()), (1, 2))


class Versions(Case):
    def test_undo_and_redo(self):
        bench = bench_of("a", "b", "c")
        shelves = [bench.at(version) for version in range(4)]
        self.assertEqual(shelves, [(), bench.shelf[:1], bench.shelf[:2], bench.shelf])
        for version in (2, 1, 0):
            self.assertEqual((bench.undo(), bench.version, bench.shelf, len(bench.log)),
                             (version, version, shelves[version], version))
        self.raises(("NothingToUndo",), bench.undo)
        for version in (1, 2, 3):
            self.assertEqual((bench.redo(), bench.version, bench.shelf, len(bench.log)),
                             (version, version, shelves[version], version))
        self.raises(("NothingToRedo",), bench.redo)
        self.assertEqual(bench, bench_of("a", "b", "c"))

    def test_an_edit_forgets_all_that_were_taken_back(self):
        bench = bench_of("a", "b", "c")
        bench.undo()
        bench.undo()
        bench.batch(())
        self.raises(("NothingToRedo",), bench.redo)
        self.assertEqual((bench.shelf, bench.log[1:]), ((("a", SPIN),), (("batch", ()),)))

    def test_a_refused_edit_forgets_nothing(self):
        bench = bench_of("a", "b")
        bench.undo()
        for word, told in (("keep", ("a", ())), ("drop", ("b",)), ("batch", (None,)), ("batch", ((("cut", "b"),),)),
                           ("at", (2,)), ("table", ("b",)), ("alike", ("a", "b"))):
            with self.assertRaises(AddsError):
                getattr(bench, word)(*told)
        self.assertEqual(bench.redo(), 2)

    def test_at_of_any_value(self):
        bench = bench_of("a", "b", "c")
        bench.undo()
        self.assertEqual([bench.at(version) for version in (0, 1, 2)], [(), bench_of("a").shelf, bench_of("a",
                                                                                                          "b").shelf])
        self.assertEqual(bench.at(version=1), bench.at(1))
        for value in [3, 4, -1, 10 ** 399, True, False, None, "0", (0,), [0], {0: 0}, bench] + odd_names()[14:]:
            if not (type(value) is int and 0 <= value <= 2):
                self.raises(("NoVersion", value), bench.at, value)

    def test_forty_edits_there_and_back(self):
        bench = full_bench()
        shelves = [bench.at(version) for version in range(41)]
        self.assertEqual([bench.undo() for _ in range(40)], list(range(39, -1, -1)))
        self.assertEqual((bench.shelf, bench.version, bench.log), ((), 0, ()))
        self.assertEqual([bench.redo() for _ in range(40)], list(range(1, 41)))
        self.assertEqual([bench.at(version) for version in range(41)], shelves)


class Copies(Case):
    def test_they_go_their_own_ways(self):
        bench = bench_of("a", "b", "c")
        bench.undo()
        other = bench.copy()
        self.assertEqual((repr(shown(other)), other == bench, other.machine is bench.machine),
                         (repr(shown(bench)), True, True))
        self.assertEqual((other.redo(), bench.version, list(bench)), (3, 2, ["a", "b"]))
        bench.drop("a")
        self.assertEqual((list(bench), list(other), other.at(1)), (["b"], ["a", "b", "c"], (("a", SPIN),)))
        self.raises(("NothingToRedo",), bench.redo)
        self.assertEqual([other.undo(), other.undo(), other.undo()], [2, 1, 0])
        self.assertEqual((bench.version, bench.log[-1]), (3, ("drop", "a")))

    def test_rows_of_edits_on_both(self):
        for seed in range(40):
            random = Random(seed)
            machine, names = random.choice(MACHINES), ["a", "b", "c"]
            pairs = [(Bench(machine), Words(machine))]
            for _ in range(60):
                bench, words = random.choice(pairs)
                if random.random() < 0.1:
                    pairs.append((bench.copy(), words.copy()))
                call = any_call(random, machine, names)
                self.assertEqual(repr(done(bench, *call)), repr(words.do(*call)), call)
            for bench, words in pairs:
                self.same(bench, words)


class Attempts(Case):
    def test_what_work_returns(self):
        bench = bench_of("a")
        self.assertIs(bench.attempt(lambda held: held), bench)
        self.assertEqual(bench.attempt(work=lambda held: (held.keep("b", ()), held.cut("a"))), (2, 3))
        self.assertEqual((bench.version, list(bench)), (3, ["a", "b"]))
        self.assertIsNone(bench.attempt(lambda held: None))

    def test_an_error_of_the_package_goes_back(self):
        for kind, told in ((errors.Unfit, ()), (errors.BadText, ()), (errors.NoName, ("x",)),
                           (errors.Barred, (("entry", 0, 1),)), (errors.AddsError, ()), (errors.BadLog, (3,))):
            bench = bench_of("a", "b", "c")
            bench.undo()
            before = repr(shown(bench))
            error = kind(*told)

            def work(held):
                held.undo()
                held.keep("d", ())
                held.batch((("drop", "d"), ("cut", "a")))
                raise error

            with self.assertRaises(kind) as caught:
                bench.attempt(work)
            self.assertIs(caught.exception, error)
            self.assertEqual(repr(shown(bench)), before)
            self.assertEqual((bench.redo(), list(bench)), (3, ["a", "b", "c"]))

    def test_an_error_that_the_bench_raises(self):
        bench = bench_of("a")
        self.raises(("Taken", "a"), bench.attempt, lambda held: (held.drop("a"), held.keep("a", ()),
                                                                 held.keep("a", ())))
        self.raises(("NoName", "b"), bench.attempt, lambda held: (held.undo(), held["b"]))
        self.raises(("NothingToUndo",), bench.attempt, lambda held: [held.undo() for _ in range(2)])
        self.assertEqual((bench.version, bench.shelf), (1, (("a", SPIN),)))

    def test_another_error_leaves_what_was_done(self):
        for kind in (ValueError, KeyError, ZeroDivisionError, RuntimeError, TypeError, StopIteration,
                     KeyboardInterrupt):
            bench = bench_of("a")

            def work(held):
                held.keep("b", ())
                held.cut("a")
                raise kind("so")

            with self.assertRaises(kind):
                bench.attempt(work)
            self.assertEqual((bench.version, list(bench)), (3, ["a", "b"]))

    def test_attempts_within_attempts(self):
        bench = bench_of("a")

        def inner(held):
            held.keep("c", ())
            raise Unfit()

        def outer(held):
            held.keep("b", ())
            try:
                held.attempt(inner)
            except Unfit:
                pass
            self.assertEqual(list(held), ["a", "b"])
            return held.attempt(lambda again: again.keep("d", ()))

        self.assertEqual(bench.attempt(outer), 3)
        self.assertEqual(list(bench), ["a", "b", "d"])

        def failing(held):
            held.keep("e", ())
            held.attempt(lambda again: again.keep("f", ()))
            raise Unfit()

        self.raises(("Unfit",), bench.attempt, failing)
        self.assertEqual((list(bench), bench.version), (["a", "b", "d"], 3))

    def test_tables_made_in_an_attempt_that_raises_are_kept(self):
        bench = bench_of("a")

        def work(held):
            held.add("a", (0, 1, 4))
            held.table("a")
            raise Unfit()

        self.raises(("Unfit",), bench.attempt, work)
        self.assertEqual((bench.made, bench["a"]), (1, SPIN))
        bench.keep("b", SPIN + ((0, 1, 4),))
        bench.table("b")
        self.assertEqual(bench.made, 1)

    def test_an_attempt_at_the_bound(self):
        bench = full_bench()
        self.raises(("TooManyEdits",), bench.attempt, lambda held: (held.undo(), held.batch(()), held.batch(())))
        self.assertEqual((bench.version, bench.log[-1][0]), (40, "add"))

    def test_an_attempt_is_no_edit(self):
        bench = bench_of("a", "b")
        bench.undo()
        bench.attempt(lambda held: held.table("a"))
        self.assertEqual((bench.version, bench.redo()), (1, 2))


class Calls(Case):
    def test_nothing_that_is_handed_in_is_changed(self):
        bench = bench_of("a")
        for word, told in (("keep", ["b", [[0, 1, 3]]]), ("keep", [["b"], SPIN]), ("add", ["a", [0, 1, 3]]),
                           ("drop", [["a"]]), ("batch", [[["cut", "a"]]]), ("batch", [(("add", "a", [0, 1, 3]),)]),
                           ("at", [[1]]), ("table", [{"a": 1}])):
            same = deepcopy(told)
            with self.assertRaises(AddsError):
                getattr(bench, word)(*told)
            self.assertEqual(told, same)

    def test_what_was_returned_stays(self):
        bench = bench_of("a")
        held = [bench.shelf, bench.log, bench.at(1), bench.at(0), bench["a"], bench.table("a"), bench.machine,
                list(bench)]
        same = deepcopy(held)
        bench.add("a", (0, 1, 4))
        bench.drop("a")
        bench.undo()
        bench.undo()
        bench.keep("b", backward(SPIN))
        bench.batch((("drop", "a"), ("cut", "b")))
        self.assertEqual(held, same)

    def test_two_benches_do_not_share(self):
        one, other = Bench(MACHINE), Bench(MACHINE)
        one.keep("a", SPIN)
        one.table("a")
        self.assertEqual(shown(other), (MACHINE, (), 0, (), 0, 0, [], [], [()]))

    def test_a_machine_without_wires_and_one_with_all(self):
        for machine in (((8, 4), ()), ((10 ** 30,) * 6, all_wires(6))):
            bench = Bench(machine)
            self.assertEqual([bench.keep("a", ()), bench.table("a"), bench.made], [1, table_of(machine, ()), 1])
