import ast
import re
import unittest
from copy import deepcopy
from random import Random

from narrowadds import errors
from narrowadds.benches import Bench
from narrowadds.bounds import MAX_EDITS, MAX_FACTOR, MAX_NEST
from narrowadds.errors import BadLog
from narrowadds.logs import bench_behind, log_text, read_log
from tests.bench_words import MACHINES, Words, any_call, any_part, done, shown
from tests.examples import check_examples
from tests.machinery import MACHINE
from tests.test_benches import EXAMPLES as BENCH_EXAMPLES
from tests.test_benches import SPIN, bench_of, full_bench
from tests.values import nested, other_values

EXAMPLES = """
    >>> from narrowadds.logs import bench_behind, log_text, read_log
    >>> log_text(b.log[:1]), log_text((("batch", ()),)), log_text((("add", "spin", (1, 0, -2)), ("cut", "spin")))
    ('(keep,spin,((0,1,3),(1,0,2)))\\n', '(batch,())\\n', '(add,spin,(1,0,-2))\\n(cut,spin)\\n')
    >>> read_log(log_text(b.log)) == b.log, bench_behind(machine, b.log) == b, read_log("(cut,spin)\\n(drop,s")
    (True, True, (('cut', 'spin'),))
    >>> read_log("(cut,spin)\\n(cut,07)\\n")
    raises BadLog(1)
    >>> bench_behind(machine, (("cut", "spin"),))
    raises BadLog(0)
"""
ARGUMENTS = {"keep": 2, "drop": 1, "add": 2, "cut": 1, "batch": 1}
ROWS = [
    (), (("cut", "a"),), (("batch", ()),), (("keep", "spin", SPIN),), (("add", "spin", (1, 0, -2)), ("cut", "spin")),
    (("drop", 0),), (("drop", -1), ("drop", 10)), (("keep", (), ()),), (("keep", ((),), ((), ())),),
    (("cut", "abcdefghij"),), (("cut", MAX_FACTOR), ("cut", -MAX_FACTOR)), (("batch", (("keep", "a", ()), ("cut", "a"),
                                                             ("add", "a", (0, 1, 3)))),),
    (("batch", "batch"),), (("keep", "keep", "keep"),), (("drop", (((1,),),)),), (("cut", "none"),),
    (("batch", (("batch", ()),)),),
]


def line_text(value):
    """Return the text of an edit tuple by the words of the document."""
    if isinstance(value, tuple):
        return "(" + ",".join(line_text(item) for item in value) + ")"
    return value if isinstance(value, str) else "%d" % value


def edit_by_words(line):
    """Return the edit tuple of which line is the text, None if there is none."""
    parts = re.findall("[a-z]+|-?[0-9]+|[(),]", line)
    nest = deepest = 0
    for part in parts:
        nest += {"(": 1, ")": -1}.get(part, 0)
        deepest = max(deepest, nest)
    if "".join(parts) != line or deepest > 12 or nest != 0:
        return None
    for part in parts:
        if part[0].isalpha() and len(part) > 10:
            return None
        if re.fullmatch("-?[0-9]+", part) and (not re.fullmatch("0|-?[1-9][0-9]{0,60}",
                                                                part) or abs(int(part)) > 10 ** 60):
            return None
    source = ["'%s'" % part if part[0].isalpha() else part for part in parts]
    source = [",)" if part == ")" and parts[at - 1] != "(" else part for at, part in enumerate(source)]
    try:
        found = ast.literal_eval("".join(source))
    except (SyntaxError, ValueError):
        return None
    if not isinstance(found, tuple) or not found or not isinstance(found[0], str):
        return None
    # What stands side by side without a comma is put together by Python.
    return found if ARGUMENTS.get(found[0]) == len(found) - 1 and line_text(found) == line else None


def any_value(random, nest):
    """Return a value that has a text, with at most so many brackets open."""
    kind = random.random()
    if kind < 0.35 and nest > 0:
        return tuple(any_value(random, nest - 1) for _ in range(random.randint(0, 4)))
    if kind < 0.7:
        return "".join(random.choice("abcxyz") for _ in range(random.randint(1, 10)))
    return random.choice((0, 1, -1, 7, 10, -10, random.randint(-10 ** 60, 10 ** 60), MAX_FACTOR, -MAX_FACTOR))


def any_edit(random):
    """Return an edit tuple that has a text, whatever its arguments are."""
    word = random.choice(list(ARGUMENTS))
    return (word, *[any_value(random, random.choice((0, 1, 2, 11))) for _ in range(ARGUMENTS[word])])


class Case(unittest.TestCase):
    def bad(self, place, function, *told):
        with self.assertRaises(BadLog) as caught:
            function(*told)
        self.assertEqual(repr(vars(caught.exception)), repr({"place": place}), str(told)[:300])

    def read(self, text):
        """Check that text is read as by the words."""
        lines = text.split("\n")[:-1]
        due = [edit_by_words(line) for line in lines]
        if None in due:
            self.bad(due.index(None), read_log, text)
        else:
            self.assertEqual(repr(read_log(text)), repr(tuple(due)), text)


class Examples(unittest.TestCase):
    def test_examples_of_the_document(self):
        check_examples(self, BENCH_EXAMPLES + EXAMPLES.lstrip("\n"))


class Texts(Case):
    def test_there_and_back(self):
        random = Random(1)
        rows = ROWS + [tuple(any_edit(random) for _ in range(random.randint(0, 6))) for _ in range(300)]
        for edits in rows:
            text = log_text(edits)
            self.assertEqual(text, "".join(line_text(edit) + "\n" for edit in edits))
            self.assertEqual(repr(read_log(text)), repr(edits))
            self.read(text)

    def test_unlike_rows_have_unlike_texts(self):
        random = Random(2)
        rows = ROWS + [tuple(any_edit(random) for _ in range(random.randint(0, 3))) for _ in range(300)]
        self.assertEqual(len({log_text(edits) for edits in rows}), len({repr(edits) for edits in rows}))

    def test_logs_of_benches(self):
        for seed in range(30):
            random = Random(seed)
            machine = random.choice(MACHINES)
            bench = Bench(machine)
            for _ in range(40):
                done(bench, *any_call(random, machine, ["a", "b", "spin"]))
            self.assertEqual(repr(read_log(log_text(bench.log))), repr(bench.log))

    def test_by_name(self):
        self.assertEqual(log_text(edits=ROWS[3]), log_text(ROWS[3]))
        self.assertEqual(read_log(value=log_text(ROWS[3])), ROWS[3])
        self.assertEqual(shown(bench_behind(edits=ROWS[3], machine=MACHINE)), shown(bench_behind(MACHINE, ROWS[3])))


class Reading(Case):
    def test_logs_cut_anywhere(self):
        random = Random(3)
        for edits in ROWS + [tuple(any_edit(random) for _ in range(4)) for _ in range(10)]:
            text = log_text(edits)
            for end in range(len(text) + 1):
                self.assertEqual(repr(read_log(text[:end])), repr(edits[:text[:end].count("\n")]))
            self.assertEqual(repr(read_log(text + "((((,,%")), repr(edits))

    def test_one_sign_left_out_put_in_or_changed(self):
        random = Random(4)
        for edits in ROWS + [tuple(any_edit(random) for _ in range(2)) for _ in range(8)]:
            text = log_text(edits)
            for at in range(min(len(text), 150)):
                self.read(text[:at] + text[at + 1:])
                for sign in "(),-0179azA \n'_+":
                    self.read(text[:at] + sign + text[at:])
                    self.read(text[:at] + sign + text[at + 1:])

    def test_two_signs_turned(self):
        random = Random(5)
        for _ in range(3000):
            text = log_text(tuple(any_edit(random) for _ in range(random.randint(1, 3))))
            for _ in range(2):
                at = random.randrange(len(text))
                text = text[:at] + random.choice(("", *"(),-01az\n")) + text[at + random.choice((0, 1)):]
            self.read(text)

    def test_lines_that_are_texts_of_no_edit_tuple(self):
        for line in ("", " ", "cut", "5", "()", "(cut)", "(cut,a,b)", "(drop)", "(keep,a)", "(keep,a,b,c)", "(add,a)",
                     "(batch)", "(batch,(),())", "(undo)", "(redo)", "(table,a)", "(5,a)", "((cut),a)", "((),a)",
                     "(cut,a", "cut,a)", "(cut,a))", "((cut,a)", "((cut,a))", "(cut,)", "(cut,a,)", "(cut,,a)",
                     "(,cut,a)", "(cut a)", "(cut, a)", " (cut,a)", "(cut,a) ", "(cut,a)(cut,a)", "(cut,a),",
                     "(Cut,a)", "(CUT,a)", "(cut,A)", "(cut,a1)", "(cut,1a)", "(cut,-)", "(cut,--1)", "(cut,-0)",
                     "(cut,00)", "(cut,01)", "(cut,-01)", "(cut,+1)", "(cut,1_0)", "(cut,0x1)", "(cut,1.0)",
                     "(cut,'a')", "(cut,\"a\")", "(cut,[a])", "(cut,None)", "(cut,True)", "(cut,a(b))", "(cut,(a)b)",
                     "(cut,(a)(b))", "(cut,()())", "(cut,\u0661)", "(cut,\u00e9)", "(cut,a)\r", "(cut\t,a)", "[cut,a]"):
            self.assertIsNone(edit_by_words(line))
            self.bad(0, read_log, line + "\n")
            self.bad(2, read_log, "(cut,a)\n(drop,b)\n" + line + "\n(cut,c)\n\n")
            self.assertEqual(read_log("(cut,a)\n" + line), (("cut", "a"),))

    def test_integers_at_the_bound(self):
        for number in (MAX_FACTOR, -MAX_FACTOR, MAX_FACTOR - 1, 0, 9 * 10 ** 59):
            self.assertEqual(read_log(f"(cut,{number})\n"), (("cut", number),))
        for number in (MAX_FACTOR + 1, -MAX_FACTOR - 1, 10 ** 61, 9 * 10 ** 60, 10 ** 4000):
            self.bad(0, read_log, f"(cut,{number})\n")
            self.bad(0, read_log, f"(add,a,(0,1,{number}))\n")

    def test_words_of_ten_letters_and_of_eleven(self):
        for many in (1, 9, 10):
            self.assertEqual(read_log(f"(cut,{'z' * many})\n"), (("cut", "z" * many),))
        for many in (11, 12, 5000):
            self.bad(0, read_log, f"(cut,{'z' * many})\n")

    def test_brackets_open_at_once(self):
        for open_ones in range(1, MAX_NEST + 3):
            line = "(cut," * (open_ones > 0) + "(" * (open_ones - 1) + ")" * open_ones
            if open_ones == 1:
                line = "(cut,a)"
            if open_ones <= 12:
                self.assertEqual(log_text(read_log(line + "\n")), line + "\n")
            else:
                self.bad(0, read_log, line + "\n")
        value = nested(11, lambda part: (part, part) if part == 0 else (part,))
        self.assertEqual(read_log(log_text((("drop", value),))), (("drop", value),))
        wide = "(batch,(" + ",".join(["()"] * 2000) + "))\n"
        self.assertEqual(read_log(wide), (("batch", ((),) * 2000),))

    def test_thousands_of_signs(self):
        for line in ("(" * 6000, "(cut," + "(" * 5000 + ")" * 5001, ")" * 6000, "(cut," + "9" * 15000 + ")",
                     "(cut," + "-" * 9000 + ")", "9" * 19000, "a" * 19000, "," * 19000, "(cut," + "0" * 19000 + ")",
                     "(cut,a" + ")" * 9000, "(cut,a)" * 2000):
            self.bad(0, read_log, line + "\n")
            self.bad(1, read_log, "(cut,a)\n" + line + "\n")
            self.assertEqual(read_log(line), ())
        self.bad(0, read_log, "\n" * 20000)
        self.assertEqual(read_log("(cut,a)\n" * 2500), (("cut", "a"),) * 2500)
        self.bad(2499, read_log, "(cut,a)\n" * 2499 + "\n")

    def test_what_is_no_string(self):
        for value in other_values():
            if isinstance(value, str):
                self.read(value)
            else:
                self.bad(0, read_log, value)
        for value in (ROWS[3], [ROWS[3]], bench_of("a"), bench_of("a").log, BadLog(5), ("(cut,a)\n",), ["(cut,a)\n"]):
            self.bad(0, read_log, value)


class Behind(Case):
    def test_benches_are_done_anew(self):
        for seed in range(40):
            random = Random(seed)
            machine = random.choice(MACHINES)
            bench = Bench(machine)
            for _ in range(60):
                done(bench, *any_call(random, machine, ["a", "b", "spin", "d"]))
            again = bench_behind(machine, bench.log)
            self.assertEqual((again == bench, again.version, again.log, again.made), (True, bench.version, bench.log,
                                                                                      0))
            while bench.version > 0:
                self.assertEqual((bench.undo(), bench.shelf), (again.undo(), again.shelf))
            self.assertEqual(again.shelf, ())
            self.assertEqual(shown(bench_behind(machine, read_log(log_text(again.log)))), shown(again))

    def test_of_no_edit(self):
        self.assertEqual(shown(bench_behind(MACHINE, ())), shown(Bench(MACHINE)))

    def test_one_refused(self):
        for place in range(6):
            edits = [("keep", name, SPIN) for name in "abcdef"]
            for odd in (("cut", "z"), ("keep", "none", ()), ("keep", "a1", ()), ("batch", None),
                        ("batch", (("cut", "z"),)), ("add", "a", None), ("drop", ["a"]), ("keep", None, None),
                        ("cut", 5), ("keep", "x", ((0, 2, 1),))):
                edits[place] = odd
                self.bad(place, bench_behind, MACHINE, tuple(edits))

    def test_the_first_one_that_is_refused(self):
        self.bad(1, bench_behind, MACHINE, (("keep", "a", ()), ("cut", "a"), ("cut", "b")))

    def test_forty_and_forty_one(self):
        log = full_bench().log
        self.assertEqual(bench_behind(MACHINE, log).version, MAX_EDITS)
        self.bad(40, bench_behind, MACHINE, log + (("batch", ()),))
        self.bad(40, bench_behind, MACHINE, log + (("cut", "a"),) * 5)
        self.bad(3, bench_behind, MACHINE, log[:3] + (("cut", "b"),) + log)

    def test_drawn_edits(self):
        for seed in range(60):
            random = Random(seed)
            words = Words(MACHINE)
            edits = tuple(any_part(random, MACHINE, ["a", "b"]) for _ in range(12))
            place = None
            for at, edit in enumerate(edits):
                if words.do(*edit)[1] is not None and place is None:
                    place = at
            if place is None:
                self.assertEqual(bench_behind(MACHINE, edits).log, edits)
            else:
                self.bad(place, bench_behind, MACHINE, edits)

    def test_a_new_bench_each_time(self):
        one, other = bench_behind(MACHINE, ROWS[3]), bench_behind(MACHINE, ROWS[3])
        one.drop("spin")
        self.assertEqual((len(one), len(other), other.version), (0, 1, 1))


class Calls(Case):
    def test_nothing_that_is_handed_in_is_changed(self):
        for value in (["(cut,a)\n"], {"(cut,a)": ["\n"]}, [["cut", "a"]]):
            same = deepcopy(value)
            self.bad(0, read_log, value)
            self.assertEqual(value, same)
        edits = (("keep", "a", SPIN), ("drop", ["a", [1]]))
        same = deepcopy(edits)
        self.bad(1, bench_behind, MACHINE, edits)
        self.assertEqual(edits, same)

    def test_equal_calls_get_equal_results(self):
        for edits in ROWS:
            self.assertEqual(repr(read_log(log_text(edits))), repr(read_log(log_text(edits))))
        self.assertEqual(vars(errors.BadLog(3)), {"place": 3})
