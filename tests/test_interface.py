import importlib
import inspect
import unittest
from copy import deepcopy

from narrowadds.benches import Bench

FUNCTIONS = {
    "machines": {
        "machine_error": ["value"], "primes_of": ["machine"], "depth": ["machine", "p", "i"],
        "step": ["machine", "j", "i"], "contents_error": ["machine", "value"],
    },
    "machinetexts": {"machine_text": ["machine"], "read_machine": ["value"]},
    "programs": {
        "deed_error": ["machine", "value"], "program_error": ["machine", "value"],
        "done": ["machine", "contents", "deed"], "run": ["machine", "program", "contents"], "backward": ["program"],
    },
    "programtexts": {"program_text": ["program"], "read_program": ["machine", "value"]},
    "tables": {
        "table_error": ["machine", "value"], "still": ["machine"], "deed_table": ["machine", "deed"],
        "both": ["machine", "one", "other"], "moved": ["machine", "table", "contents"],
        "power": ["machine", "table", "k"], "can_be_undone": ["machine", "table"], "undone": ["machine", "table"],
        "table_of": ["machine", "program"],
    },
    "roads": {
        "rise": ["machine", "p", "j", "i"], "climb": ["machine", "p", "j", "i"], "road": ["machine", "p", "j", "i"],
        "least_factor": ["machine", "j", "i"],
    },
    "wiring": {"does_all": ["machine", "other"], "spare": ["machine"], "lean": ["machine"]},
    "rooms": {
        "round_trip": ["machine", "p", "i", "j"], "rooms": ["machine", "p", "t"], "telling": ["machine", "p", "t"],
        "mark": ["machine", "table", "p", "t", "room"],
    },
    "adding": {"adding": ["machine", "j", "i", "c"]},
    "writing": {"written": ["machine", "table"]},
    "barring": {"is_done": ["machine", "table"], "paper_holds": ["machine", "table", "value"]},
    "counts": {"table_count": ["machine"], "undone_count": ["machine"]},
    "wishes": {
        "wish_error": ["machine", "value"], "granted": ["machine", "wish"], "wish_holds": ["machine", "wish", "value"],
        "wish_count": ["machine", "wish"],
    },
    "leading": {
        "are_joined": ["machine", "one", "other"], "way": ["machine", "one", "other"],
        "apart_holds": ["machine", "one", "other", "value"],
    },
    "logs": {"log_text": ["edits"], "read_log": ["value"], "bench_behind": ["machine", "edits"]},
    "shares": {
        "shares": ["machine", "contents"], "gives": ["machine", "contents"], "class_size": ["machine", "contents"],
        "rested": ["machine", "contents"],
    },
}
METHODS = {
    ("benches", "Bench"): {
        "__init__": ["machine"], "keep": ["name", "program"], "drop": ["name"], "add": ["name", "deed"], "cut": ["name"],
        "batch": ["edits"], "table": ["name"], "alike": ["one", "other"], "undo": [], "redo": [], "at": ["version"],
        "copy": [], "attempt": ["work"],
    },
    ("shells", "Shell"): {"__init__": ["machine"], "say": ["line"]},
}
PROPERTIES = ["machine", "shelf", "version", "log", "made"]
OPERATORS = ["__len__", "__contains__", "__getitem__", "__iter__", "__eq__", "__ne__"]
MACHINE = ((8, 4, 8), ((0, 1), (1, 0), (1, 2), (2, 0)))
# What is handed in by these names, unless a function has its own below.
WORTHS = {
    "machine": MACHINE, "p": 2, "j": 1, "i": 2, "contents": (5, 2, 7), "deed": (0, 1, 3), "k": 3,
    "program": ((0, 1, 3), (1, 0, 2)), "table": ((7, 2, 0), (3, 1, 0), (0, 0, 1)), "value": (7, 3, 0),
    "one": ((1, 0, 0), (3, 1, 0), (0, 0, 1)), "other": ((1, 2, 0), (0, 1, 0), (0, 0, 1)),
    "t": 1, "room": (0, 1, 2), "c": -6, "wish": ((3, 2, 5), None, None),
    "edits": (("keep", "spin", ((0, 1, 3), (1, 0, 2))), ("cut", "spin")),
}
OWN_WORTHS = {
    "read_machine": {"value": "8 4 8: 0>1 1>0 1>2 2>0"}, "read_program": {"value": "0>1*3 1>0*-2"},
    "does_all": {"other": ((8, 4, 8), ((0, 1), (0, 2)))},
    "paper_holds": {"table": ((3, 0, 0), (0, 1, 0), (0, 0, 1)), "value": ("room", 2, 1, (0, 1, 2))},
    "are_joined": {"one": (1, 0, 0), "other": (3, 0, 0)}, "way": {"one": (1, 0, 0), "other": (3, 0, 0)},
    "apart_holds": {"one": (1, 0, 0), "other": (0, 0, 1), "value": ("share", 2)},
    "read_log": {"value": "(cut,spin)\n(batch,())\n"},
    "wish_error": {"value": ((3, 2, 5), None, (2, 1, 1))},
    "wish_holds": {"wish": ((2, 2, 5), None, None), "value": ("rows", 2, (0,))},
}


def listed():
    """Return (the file's name, the function, the told names of its arguments) of all listed functions."""
    return [
        (file, getattr(importlib.import_module("narrowadds." + file), name), names)
        for file, functions in FUNCTIONS.items() for name, names in functions.items()
    ]


def shown(value):
    """Return what tells value from others; a bench shows its log."""
    return repr(value.log) if isinstance(value, Bench) else repr(value)


class Interface(unittest.TestCase):
    def test_each_function_is_defined_in_its_file(self):
        for file, function, _ in listed():
            self.assertTrue(inspect.isfunction(function))
            self.assertEqual(function.__module__, "narrowadds." + file)

    def test_arguments_have_the_told_names_and_order(self):
        for _, function, names in listed():
            self.assertEqual(list(inspect.signature(function).parameters), names, function.__name__)

    def test_calls_by_place_and_by_name_are_alike(self):
        for _, function, names in listed():
            worths = {**WORTHS, **OWN_WORTHS.get(function.__name__, {})}
            told = {name: worths[name] for name in names}
            same = deepcopy(told)
            by_place = shown(function(*[told[name] for name in names]))
            self.assertEqual(shown(function(**told)), by_place)
            self.assertEqual(shown(function(**dict(reversed(list(told.items()))))), by_place)
            self.assertEqual(repr(told), repr(same), function.__name__)

    def test_classes_have_their_methods_in_their_own_bodies(self):
        for (file, name), methods in METHODS.items():
            kind = getattr(importlib.import_module("narrowadds." + file), name)
            self.assertTrue(inspect.isclass(kind))
            self.assertEqual(kind.__module__, "narrowadds." + file)
            for method, names in methods.items():
                self.assertTrue(inspect.isfunction(vars(kind)[method]), method)
                self.assertEqual(list(inspect.signature(vars(kind)[method]).parameters)[1:], names, method)

    def test_properties_and_operators_of_benches(self):
        for name in PROPERTIES:
            self.assertIsInstance(vars(Bench)[name], property)
            self.assertIsNone(vars(Bench)[name].fset)
        for name in OPERATORS:
            self.assertTrue(inspect.isfunction(vars(Bench)[name]), name)
