"""Shells: lines said to a bench, and what it answers."""

from narrowadds.benches import Bench
from narrowadds.bounds import MAX_FACTOR
from narrowadds.errors import AddsError, BadText, Unfit
from narrowadds.figures import read_integer
from narrowadds.machines import contents_error
from narrowadds.programs import run
from narrowadds.programtexts import program_text, read_program

UNKNOWN = "what"


def version_told(version):
    """Return the answer to an edit."""
    return f"version {version}"


def integers_told(words):
    """Return the tuple of the integers that words tell, None if one of them tells none."""
    try:
        return tuple([read_integer(word, MAX_FACTOR) for word in words])
    except BadText:
        return None


def answer_keep(bench, rest):
    """Answer to what stands behind the word of a line that keeps a program."""
    name, blank, text = rest.partition(" ")
    if name == "" or blank == "":
        return UNKNOWN
    return version_told(bench.keep(name, read_program(bench.machine, text)))


def answer_drop(bench, words):
    """Answer to a name that is to go."""
    return version_told(bench.drop(words[0]))


def answer_add(bench, words):
    """Answer to a name and the integers of a deed that is to come to its program."""
    deed = integers_told(words[1:])
    if deed is None:
        return UNKNOWN
    return version_told(bench.add(words[0], deed))


def answer_cut(bench, words):
    """Answer to a name of which the last deed is to go."""
    return version_told(bench.cut(words[0]))


def answer_undo(bench, _):
    """Answer when the last edit is to be taken back."""
    return version_told(bench.undo())


def answer_redo(bench, _):
    """Answer when an edit is to be done again."""
    return version_told(bench.redo())


def answer_names(bench, _):
    """Tell all names."""
    if len(bench) == 0:
        return "none"
    return " ".join(list(bench))


def answer_show(bench, words):
    """Tell the program with a name."""
    return "program " + program_text(bench[words[0]])


def answer_table(bench, words):
    """Tell the table of the program with a name."""
    return "; ".join([" ".join([str(entry) for entry in row]) for row in bench.table(words[0])])


def answer_alike(bench, words):
    """Tell whether the programs with two names have one table."""
    return "yes" if bench.alike(words[0], words[1]) else "no"


def answer_made(bench, _):
    """Tell how many programs tables were made of."""
    return str(bench.made)


def answer_run(bench, words):
    """Tell where the program with a name leads contents."""
    contents = integers_told(words[1].split(","))
    if contents is None:
        return UNKNOWN
    program = bench[words[0]]
    if contents_error(bench.machine, contents) is not None:
        raise Unfit()
    return ",".join([str(rest) for rest in run(bench.machine, program, contents)])


# How many words stand behind the first word of a line, and what answers to them.
COUNTS = {
    "drop": 1, "add": 4, "cut": 1, "undo": 0, "redo": 0, "names": 0, "show": 1, "table": 1, "alike": 2, "made": 0,
    "run": 2,
}
ANSWERS = {
    "drop": answer_drop, "add": answer_add, "cut": answer_cut, "undo": answer_undo, "redo": answer_redo,
    "names": answer_names, "show": answer_show, "table": answer_table, "alike": answer_alike, "made": answer_made,
    "run": answer_run,
}


def answer(bench, line):
    """Do on bench what line tells, and return the answer."""
    word, _, rest = line.partition(" ")
    # The text of a program has blanks of its own, and may be empty.
    if word == "keep":
        return answer_keep(bench, rest)
    words = line.split(" ")[1:]
    if word not in COUNTS or len(words) != COUNTS[word] or "" in words:
        return UNKNOWN
    action = ANSWERS[word]
    return action(bench, words)


class Shell:
    """A bench of its own, to which lines are said."""

    def __init__(self, machine):
        self._bench = Bench(machine)

    def say(self, line):
        """Do what line, any value, tells, and return the answer."""
        if not isinstance(line, str):
            return UNKNOWN
        try:
            return answer(self._bench, line)
        except AddsError as error:
            return "error " + error.__class__.__name__
