"""Benches by the words of the document: all that stands is done anew from the beginning each time."""

import re
from random import Random

from narrowadds import errors
from narrowadds.programs import program_error
from narrowadds.tables import table_of
from tests.machinery import MACHINE, MIXED, RING, WAIST, deed_of, great_machines, program_of

ARGUMENTS = {"keep": 2, "drop": 1, "add": 2, "cut": 1}
FULL = 40
MACHINES = [MACHINE, MIXED, RING, WAIST, *[machine for machine in great_machines() if machine[1]]]


class Fault(Exception):
    """What is due to be raised: the name of a class, and its field, if it has one."""

    def __init__(self, name, *field):
        self.told = (name, *field)


def edited(machine, shelf, word, *told):
    """Return the shelf, a dict, behind an edit that is no batch."""
    name = told[0]
    if word == "keep":
        if not isinstance(name, str) or not re.fullmatch("[a-z]{1,8}", name) or name == "none" or name.endswith("\n"):
            raise Fault("Unfit")
        if program_error(machine, told[1]) is not None:
            raise Fault("BadProgram", program_error(machine, told[1]))
        if name in shelf:
            raise Fault("Taken", name)
        if len(shelf) == 8:
            raise Fault("TooMany", 8)
        return {**shelf, name: told[1]}
    if not isinstance(name, str) or name not in shelf:
        raise Fault("NoName", name)
    if word == "drop":
        return {kept: shelf[kept] for kept in shelf if kept != name}
    if word == "add":
        program = (*shelf[name], told[1])
        if program_error(machine, program) is not None:
            raise Fault("BadProgram", program_error(machine, program))
        return {**shelf, name: program}
    if shelf[name] == ():
        raise Fault("Unfit")
    return {**shelf, name: shelf[name][:-1]}


def is_part(value):
    return isinstance(value, tuple) and value != () and isinstance(value[0], str) and \
        len(value) - 1 == ARGUMENTS.get(value[0], -1)


def behind(machine, shelf, edit):
    """Return the shelf behind an edit, told as a tuple."""
    if edit[0] != "batch":
        return edited(machine, shelf, *edit)
    if not isinstance(edit[1], tuple) or len(edit[1]) > 12 or not all(is_part(part) for part in edit[1]):
        raise Fault("BadBatch")
    for place, part in enumerate(edit[1]):
        try:
            shelf = edited(machine, shelf, *part)
        except Fault:
            raise Fault("Rejected", place) from None
    return shelf


class Words:
    """What a bench is to be."""

    def __init__(self, machine):
        self.machine = machine
        self.standing = []
        self.taken_back = []
        self.made = []

    def shelf(self, many=None):
        shelf = {}
        for edit in self.standing[:len(self.standing) if many is None else many]:
            shelf = behind(self.machine, shelf, edit)
        return tuple(sorted(shelf.items()))

    def edit(self, *edit):
        behind(self.machine, dict(self.shelf()), edit)
        if len(self.standing) == FULL:
            raise Fault("TooManyEdits")
        self.standing.append(edit)
        self.taken_back = []
        return len(self.standing)

    def undo(self):
        if not self.standing:
            raise Fault("NothingToUndo")
        self.taken_back.append(self.standing.pop())
        return len(self.standing)

    def redo(self):
        if not self.taken_back:
            raise Fault("NothingToRedo")
        self.standing.append(self.taken_back.pop())
        return len(self.standing)

    def tables(self, *names):
        shelf = dict(self.shelf())
        for name in names:
            if not isinstance(name, str) or name not in shelf:
                raise Fault("NoName", name)
        programs = [shelf[name] for name in names]
        self.made += [program for at, program in enumerate(programs) if program not in self.made + programs[:at]]
        return [table_of(self.machine, program) for program in programs]

    def table(self, name):
        return self.tables(name)[0]

    def alike(self, one, other):
        one, other = self.tables(one, other)
        return one == other

    def at(self, version):
        if type(version) is not int or not 0 <= version <= len(self.standing):
            raise Fault("NoVersion", version)
        return self.shelf(version)

    def copy(self):
        found = Words(self.machine)
        found.standing, found.taken_back, found.made = self.standing[:], self.taken_back[:], self.made[:]
        return found

    def do(self, word, *told):
        """Do what a method of a bench does; return what it returns, or what it raises as a tuple."""
        try:
            return (self.edit(word, *told) if word in (*ARGUMENTS, "batch") else getattr(self, word)(*told)), None
        except Fault as fault:
            return None, fault.told


def done(bench, word, *told):
    """Do a method of bench; return what it returns, or what it raises as a tuple."""
    try:
        return getattr(bench, word)(*told), None
    except errors.AddsError as error:
        return None, (error.__class__.__name__, *vars(error).values())


def shown(bench):
    """Return all that bench shows."""
    return (bench.machine, bench.shelf, bench.version, bench.log, bench.made, len(bench), list(bench),
            [bench[name] for name in bench], [bench.at(version) for version in range(bench.version + 1)])


def due(words):
    """Return all that a bench is to show."""
    shelf = words.shelf()
    return (words.machine, shelf, len(words.standing), tuple(words.standing), len(words.made), len(shelf),
            [name for name, _ in shelf], [program for _, program in shelf],
            [words.shelf(version) for version in range(len(words.standing) + 1)])


def odd_names():
    """Return what is no name, made anew."""
    return ["", "none", "abcdefghi", "Spin", "spin1", "sp in", "spin\n", "\n", " ", "a-b", "A", "(", "1", "\u00e9",
            "a" * 20000, None, True, 0, 1, -5, 10 ** 399, ("spin",), ["spin"], {"spin": 1}, (), [], {},
            errors.NoName("a")]


def odd_programs(machine):
    """Return what is no program of machine, made anew."""
    deed = deed_of(Random(1), machine)
    return [None, True, 0, "", "0>1*3", [], [deed], deed, (deed, None), (list(deed),), {0: deed}, ((),), (deed[:2],),
            (deed + (0,),), ((9, 0, 0),), ((0, 0, 0),), ((True, 0, 0),), (deed, deed, (deed[0], deed[1], True)),
            ((deed[0], deed[1], 10 ** 60 + 1),), ((-1, 0, 0),), (deed[:2] + ("0",),), (deed[:2] + (10 ** 399,),),
            ((deed,),)]


def odd_deeds(machine):
    """Return what is no deed of machine, made anew."""
    j, i, c = deed_of(Random(2), machine)
    return [None, True, 0, "", "0>1*3", [], (), [j, i, c], {0: j, 1: i, 2: c}, (j, i), (j, i, c, 0), ((j, i, c),),
            (j, j, 0), (9, 0, 0), (-1, i, 0), (j, 10 ** 399, 0), (j, i, True), (bool(j), i, c) if j < 2 else (j, i,
                                                                                                              None),
            (j, i, 10 ** 60 + 1),
            (j, i, -(10 ** 399)), (j, i, str(c)), (j, i, [c])]


def odd_batches():
    """Return what is no batch, made anew."""
    cut = ("cut", "a")
    return [None, True, 0, "", "cut", cut, [], [cut], (list(cut),), {0: cut}, (cut, None), (cut, "cut"), ((),),
            (("cut",),), (cut * 2,), (("undo",),), (("batch", ()),), (("Cut", "a"),), (("cut", "a", 1),),
            (("keep", "a"),), (("add", "a"),), ((1, "a"),), ((["cut"], "a"),), ((("cut",), "a"),), (({}, "a"),),
            ((None, "a"),), (cut,) * 13, (("drop",),), (("drop", "a", "b"),), (("table", "a"),), ((True, "a"),),
            (("", "a"),), (cut, ("keep", "a", (), ())), ((cut,),)]


def any_call(random, machine, names):
    """Return the word of a method and its arguments, mostly right ones."""
    word = random.choice(["keep"] * 6 + ["add"] * 5 + ["cut", "batch", "undo", "redo", "table"] * 3 +
                         ["drop", "alike", "at"] * 2)
    if word == "batch":
        if random.random() < 0.2:
            return word, random.choice(odd_batches())
        return word, tuple(any_part(random, machine, names) for _ in range(random.choice((0, 1, 2, 3, 5, 12, 13))))
    if word in ARGUMENTS:
        return any_part(random, machine, names, word)
    if word == "at":
        return word, random.choice((0, 1, 2, 5, 40, 41, -1, True, None, "0", [1], (1,), 10 ** 30))
    name = random.choice(names) if random.random() < 0.9 else random.choice(odd_names())
    return (word, *((name,) if word == "table" else (name, random.choice(names)) if word == "alike" else ()))


def any_part(random, machine, names, word=None):
    """Return an edit that is no batch, mostly a right one."""
    word = word or random.choice(list(ARGUMENTS))
    name = random.choice(names) if random.random() < 0.93 else random.choice(odd_names())
    if word == "keep":
        program = program_of(random, machine, random.choice((0, 0, 1, 2, 3, 10)))
        return word, name, program if random.random() < 0.9 else random.choice(odd_programs(machine))
    if word == "add":
        deed = deed_of(random, machine, random.choice((1, 20, 10 ** 60)))
        return word, name, deed if random.random() < 0.9 else random.choice(odd_deeds(machine))
    return word, name
