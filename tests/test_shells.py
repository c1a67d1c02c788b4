import re
import unittest
from copy import deepcopy
from random import Random

from narrowadds import errors
from narrowadds.benches import Bench
from narrowadds.errors import AddsError, BadMachine, Unfit
from narrowadds.machines import contents_error, machine_error
from narrowadds.programs import run
from narrowadds.programtexts import program_text, read_program
from narrowadds.shells import Shell
from tests.bench_words import MACHINES, odd_names
from tests.examples import check_examples
from tests.machinery import MACHINE, contents_of, deed_of, program_of
from tests.values import other_values

EXAMPLES = """
    >>> machine = ((8, 4, 8), ((0, 1), (1, 0), (1, 2), (2, 0)))
    >>> from narrowadds.shells import Shell
    >>> s = Shell(machine)
    >>> [s.say("keep spin 0>1*3 1>0*2"), s.say("table spin"), s.say("run spin 1,2,5"), s.say("add spin 1 2 2"), s.say("show spin"), s.say("keep none 0>1*1")]
    ['version 1', '7 2 0; 3 1 0; 0 0 1', '3,1,5', 'version 2', 'program 0>1*3 1>0*2 1>2*2', 'error Unfit']
    >>> [s.say("keep back 1>0*-2 0>1*-3"), s.say("alike spin back"), s.say("made"), s.say("cut spin"), s.say("table spin"), s.say("made"), s.say("names")]
    ['version 3', 'no', '3', 'version 4', '7 2 0; 3 1 0; 0 0 1', '3', 'back spin']
    >>> [s.say("add spin 0 2 1"), s.say("keep four 0>2*1"), s.say("run spin 8,0,0"), s.say("cut four"), s.say("run spin"), s.say("add spin 1 0 04"), s.say(7)]
    ['error BadProgram', 'error BadText', 'error Unfit', 'error NoName', 'what', 'what', 'what']
    >>> [s.say("keep idle "), s.say("keep lazy"), s.say("show idle"), s.say("table idle")]
    ['version 5', 'what', 'program ', '1 0 0; 0 1 0; 0 0 1']
"""
NAME = "([^ ]+)"
INT = "(0|-?[1-9][0-9]{0,60})"
INTS = f"({INT}(?:,{INT})*)"
PATTERNS = {
    "keep": f"keep {NAME} (.*)", "drop": f"drop {NAME}", "add": f"add {NAME} {INT} {INT} {INT}", "cut": f"cut {NAME}",
    "undo": "undo", "redo": "redo", "names": "names", "show": f"show {NAME}", "table": f"table {NAME}",
    "alike": f"alike {NAME} {NAME}", "made": "made", "run": f"run {NAME} {INTS}",
}


class Words:
    """What a shell is to say, by the words of the document; its bench is asked by its methods alone."""

    def __init__(self, machine):
        self.bench = Bench(machine)

    def say(self, line):
        if isinstance(line, str):
            for word, pattern in PATTERNS.items():
                found = re.fullmatch(pattern, line, re.DOTALL)
                if found:
                    try:
                        return self.told(word, *found.groups())
                    except AddsError as error:
                        return f"error {type(error).__name__}"
        return "what"

    def told(self, word, *parts):
        bench = self.bench
        if word == "keep":
            return f"version {bench.keep(parts[0], read_program(bench.machine, parts[1]))}"
        if word == "add":
            return f"version {bench.add(parts[0], tuple(int(part) for part in parts[1:]))}"
        if word in ("drop", "cut", "undo", "redo"):
            return f"version {getattr(bench, word)(*parts)}"
        if word == "names":
            return " ".join(bench) or "none"
        if word == "show":
            return f"program {program_text(bench[parts[0]])}"
        if word == "table":
            return "; ".join(" ".join(map(str, row)) for row in bench.table(parts[0]))
        if word == "alike":
            return "yes" if bench.alike(*parts) else "no"
        if word == "made":
            return str(bench.made)
        program, contents = bench[parts[0]], tuple(int(part) for part in parts[1].split(","))
        if contents_error(bench.machine, contents) is not None:
            raise Unfit()
        return ",".join(map(str, run(bench.machine, program, contents)))


def any_line(random, machine, names):
    """Return a line, mostly a right one."""
    name = random.choice(names) if random.random() < 0.95 else random.choice(["none", "abcdefghi", "A", "x1", "a\n"])
    word = random.choice(["keep"] * 4 + ["add"] * 4 + ["cut"] * 2 + ["run"] * 3 + ["undo", "redo"] * 2 + list(PATTERNS))
    if word == "keep":
        return f"keep {name} {program_text(program_of(random, machine, random.choice((0, 1, 2, 6))))}"
    if word == "add":
        j, i, c = deed_of(random, machine, random.choice((1, 30, 10 ** 60)))
        return f"add {name} {j} {i} {c + (random.random() < 0.1)}"
    if word == "run":
        return f"run {name} {','.join(map(str, contents_of(random, machine)))}"
    if word == "alike":
        return f"alike {name} {random.choice(names)}"
    return word if word in ("undo", "redo", "names", "made") else f"{word} {name}"


def turned_lines(random, line):
    """Return lines that are like line, but for a word, a blank, a line feed or another sign more or less."""
    words = line.split(" ")
    at, place = random.randrange(len(words)), random.randrange(len(line) + 1)
    found = [" ".join(words[:at] + words[at + 1:]), " ".join(words[:at] + [words[at]] + words[at:]), line + " ",
             " " + line, line + "\n", "\n" + line, line + " a", line + " 0", line.upper(), line.replace(" ", "  ", 1),
             line.replace(" ", "\n", 1), line.replace(" ", "")]
    for sign in " \n,-0+1a>*\t":
        found += [line[:place] + sign + line[place:], line[:place] + sign + line[place + 1:]]
    return found + [line[:place] + line[place + 1:], line[:place]]


class Case(unittest.TestCase):
    def says(self, shell, *pairs):
        for line, due in pairs:
            self.assertEqual(shell.say(line), due, line)


class Examples(unittest.TestCase):
    def test_examples_of_the_document(self):
        check_examples(self, EXAMPLES)


class Making(Case):
    def test_values_that_are_no_machine(self):
        for value in other_values() + [((8,), ((0, 1),)), ((True, 4), ()), [MACHINE], ((8, 4), ((0, 1), (0, 1)))]:
            if machine_error(value) is not None:
                with self.assertRaises(BadMachine) as caught:
                    Shell(value)
                self.assertEqual(caught.exception.error, machine_error(value))

    def test_by_name(self):
        self.assertEqual(Shell(machine=MACHINE).say(line="names"), "none")
        self.assertIn("say", vars(Shell))


class Lines(Case):
    def test_rows_of_lines_against_the_words(self):
        for seed in range(60):
            random = Random(seed)
            machine = random.choice(MACHINES)
            names = random.sample(["a", "b", "spin", "zz", "abcdefgh", "c", "d", "e", "f", "g"],
                                  random.choice((2, 4, 10)))
            shell, words = Shell(machine), Words(machine)
            for _ in range(80):
                line = any_line(random, machine, names)
                for one in [line] + (turned_lines(random, line) if random.random() < 0.2 else []):
                    self.assertEqual(shell.say(one), words.say(one), one)

    def test_edits(self):
        shell = Shell(MACHINE)
        self.says(
            shell, ("undo", "error NothingToUndo"), ("redo", "error NothingToRedo"), ("names", "none"), ("made", "0"),
            ("keep a 0>1*3", "version 1"), ("keep b ", "version 2"), ("names", "a b"), ("drop a", "version 3"),
            ("names", "b"), ("undo", "version 2"), ("names", "a b"), ("redo", "version 3"),
            ("redo", "error NothingToRedo"), ("cut b", "error Unfit"), ("add b 0 1 -7", "version 4"),
            ("show b", "program 0>1*-7"), ("cut b", "version 5"), ("show b", "program "),
            ("drop a", "error NoName"), ("cut a", "error NoName"), ("add a 0 1 1", "error NoName"),
            ("show a", "error NoName"), ("table a", "error NoName"), ("alike a b", "error NoName"),
            ("alike b a", "error NoName"), ("run a 0,0,0", "error NoName"), ("keep b ", "error Taken"),
            ("keep abcdefghi ", "error Unfit"), ("keep none ", "error Unfit"), ("made", "0"),
        )

    def test_names_and_texts_that_are_kept(self):
        shell = Shell(MACHINE)
        self.says(
            shell, ("keep a\nb ", "error Unfit"), ("keep \n ", "error Unfit"), ("keep a 0>1*3\n", "error BadText"),
            ("keep A 0>1", "error BadText"), ("keep none 0>1*03", "error BadText"), ("keep a  ", "error BadText"),
            ("keep a 0>1*3 ", "error BadText"), ("keep  a 0>1*3", "what"), ("keep  ", "what"), ("keep ", "what"),
            ("keep", "what"), ("keep a", "what"), ("keepa 0>1*3", "what"), (" keep a ", "what"),
            ("Keep a ", "what"), ("keep\na ", "what"), ("keep a\n", "what"), ("keep a 1>0*3", "error BadText"),
            ("keep a 0>1*3 1>0*2", "version 1"), ("keep a", "what"), ("keep a ", "error Taken"),
            ("keep b 0>1*1000000000000000000000000000000000000000000000000000000000000", "version 2"),
            ("keep c 0>1*1000000000000000000000000000000000000000000000000000000000001", "error BadText"),
        )

    def test_the_ninth_name_and_the_forty_first_edit(self):
        shell = Shell(MACHINE)
        for name in "abcdefgh":
            shell.say(f"keep {name} ")
        self.says(shell, ("keep i ", "error TooMany"), ("names", "a b c d e f g h"))
        for version in range(9, 41):
            self.says(shell, ("add a 0 1 1", f"version {version}"))
        self.says(shell, ("add a 0 1 1", "error TooManyEdits"), ("cut a", "error TooManyEdits"),
                  ("drop a", "error TooManyEdits"), ("keep i ", "error TooMany"), ("undo", "version 39"),
                  ("drop a", "version 40"), ("redo", "error NothingToRedo"))

    def test_whole_lines(self):
        shell = Shell(MACHINE)
        shell.say("keep a 0>1*3")
        for word in ("undo", "redo", "names", "made"):
            for line in (word + " ", " " + word, word + "\n", "\n" + word, word + " a", word + "  ", word.upper(),
                         word[:-1], word + word):
                self.says(shell, (line, "what"))
        self.says(shell, ("names", "a"), ("made", "0"))

    def test_words_more_and_fewer(self):
        shell = Shell(MACHINE)
        shell.say("keep a 0>1*3")
        for line in ("drop", "drop ", "drop  a", "drop a ", "drop a b", "cut", "cut ", "cut a b", "cut a ", "show",
                     "show ", "show a b", "show a ", "table", "table ", "table a b", "table  a", "alike", "alike a",
                     "alike a ", "alike a a ", "alike a  a", "alike a a a", "add a 0 1", "add a 0 1 ", "add a 0 1 1 ",
                     "add a 0 1 1 1", "add  0 1 1", "add a  0 1 1", "add 0 1 1", "add", "add ", "run", "run a",
                     "run a ", "run a 0,0,0 ", "run  0,0,0", "run a 0,0,0 0", "run a 0, 0,0", "run a ,",
                     "run a 0,0,", "run a ,0,0", "run a 0,,0", "batch ()", "at 1", "copy", "attempt", "log", "shelf",
                     "version", "", " ", "\n", "a", "what", "error", "none"):
            self.says(shell, (line, "what"))
        self.says(shell, ("names", "a"), ("undo", "version 0"))

    def test_integers(self):
        shell = Shell(MACHINE)
        shell.say("keep a ")
        for word in ("00", "01", "-0", "-00", "-01", "+1", "--1", "-", "1-", "1_0", "1.0", "0x1", "\u0661", "\u00b2",
                     "1\n", "\n1", "1,", "a", "9" * 62, "1" + "0" * 61, "-" + "9" * 62, "9" * 5000, "0" * 5000,
                     "-" + "1" * 4400):
            for line in (f"add a 0 1 {word}", f"add a {word} 1 1", f"add a 0 {word} 1", f"run a {word},0,0",
                         f"run a 0,0,{word}", f"add b 0 1 {word}", f"run b 0,{word},0"):
                self.says(shell, (line, "what"))
        for word in ("9" * 61, "-" + "9" * 61, "1" + "0" * 59 + "1", "-1" + "0" * 59 + "1"):
            self.says(shell, (f"run a {word},0,0", "error Unfit"), (f"add a {word} 1 1", "error BadProgram"))
        for word in ("9" * 61, "-" + "9" * 61, "1" + "0" * 59 + "1", "-1" + "0" * 59 + "1"):
            self.says(shell, (f"add a 0 1 {word}", "error BadProgram" if abs(int(word)) > 10 ** 60 else "version 2"))
        self.says(shell, ("add a 0 1 " + str(10 ** 60), "version 2"), ("add a 0 1 -" + str(10 ** 60), "version 3"),
                  ("add a 0 1 0", "version 4"), ("add a 1 0 3", "error BadProgram"),
                  ("add a 0 2 1", "error BadProgram"),
                  ("add a -1 0 0", "error BadProgram"),
                  ("show a", f"program 0>1*{10 ** 60} 0>1*-{10 ** 60} 0>1*0"))

    def test_run(self):
        shell = Shell(MACHINE)
        shell.say("keep a 0>1*3 1>0*2")
        self.says(
            shell, ("run a 1,2,5", "3,1,5"), ("run a 0,0,0", "0,0,0"), ("run a 7,3,7", "7,0,7"),
            ("run a 8,0,0", "error Unfit"), ("run a 0,4,0", "error Unfit"),
            ("run a -1,0,0", "error Unfit"), ("run a 0,0", "error Unfit"), ("run a 0,0,0,0", "error Unfit"),
            ("run a 0", "error Unfit"),
            ("run b 8,0,0", "error NoName"), ("run b 0", "error NoName"), ("run none 0,0,0", "error NoName"),
            ("run b 08,0,0", "what"),
        )
        self.says(Shell(((8,), ())), ("keep a ", "version 1"), ("run a 7", "7"), ("run a 8", "error Unfit"))

    def test_tables(self):
        shell = Shell(MACHINE)
        shell.say("keep a 0>1*3 1>0*2")
        shell.say("keep b 0>1*7 1>0*2")
        self.says(shell, ("table b", "7 2 0; 3 1 0; 0 0 1"), ("made", "1"), ("alike a b", "yes"), ("made", "2"),
                  ("alike a a", "yes"),
                  ("cut a", "version 3"), ("alike a b", "no"), ("made", "3"), ("table a", "1 0 0; 3 1 0; 0 0 1"),
                  ("made", "3"))
        self.says(Shell(((8,), ())), ("keep a ", "version 1"), ("table a", "1"))

    def test_all_classes_of_errors(self):
        shell = Shell(MACHINE)
        told = {shell.say(line) for line in ("undo", "redo", "keep none ", "keep a 0>1", "cut a")}
        shell.say("keep a ")
        told |= {shell.say(line) for line in ("keep a ", "add a 0 2 1", "cut a")}
        self.assertEqual(told, {"error " + name for name in
                                ("NothingToUndo", "NothingToRedo", "Unfit", "BadText", "NoName", "Taken",
                                 "BadProgram")})


class Values(Case):
    def test_things_that_are_no_strings(self):
        shell = Shell(MACHINE)
        shell.say("keep a ")
        for value in other_values() + odd_names() + [("names",), ["names"], shell, Shell, errors.Unfit(),
                                                     Bench(MACHINE)]:
            self.says(shell, (value, "what"))
        self.says(shell, ("names", "a"))

    def test_long_lines(self):
        shell = Shell(MACHINE)
        self.says(
            shell, ("a" * 20000, "what"), (" " * 20000, "what"), ("\n" * 20000, "what"),
            ("drop " + "a" * 19000, "error NoName"),
            ("keep a " + "0" * 19000, "error BadText"), ("keep " + "a" * 19000 + " ", "error Unfit"),
            ("run a " + "0," * 9000 + "0", "error NoName"),
            ("run a " + "0," * 9000, "what"), ("keep a " + " ".join(["0>1*3"] * 3000), "version 1"),
            ("run a 1,0,0", "1,0,0"),
            ("add a 0 1 " + "9" * 19000, "what"),
        )

    def test_nothing_that_is_handed_in_is_changed(self):
        shell = Shell(MACHINE)
        for value in (["names"], {"names": ["a"]}, [["keep", "a", ""]]):
            same = deepcopy(value)
            self.says(shell, (value, "what"))
            self.assertEqual(value, same)


class Two(Case):
    def test_they_go_their_own_ways(self):
        one, other = Shell(MACHINE), Shell(MACHINE)
        self.says(one, ("keep a 0>1*3", "version 1"), ("table a", "1 0 0; 3 1 0; 0 0 1"))
        self.says(other, ("names", "none"), ("made", "0"), ("undo", "error NothingToUndo"), ("keep b ", "version 1"))
        self.says(one, ("names", "a"), ("made", "1"), ("undo", "version 0"))
        self.says(other, ("redo", "error NothingToRedo"), ("names", "b"))
