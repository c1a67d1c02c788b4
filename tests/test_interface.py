import importlib
import inspect
import unittest

FUNCTIONS = {
    "machines": {
        "machine_error": ["value"], "primes_of": ["machine"], "depth": ["machine", "p", "i"],
        "step": ["machine", "j", "i"], "contents_error": ["machine", "value"],
    },
    "machinetexts": {"machine_text": ["machine"], "read_machine": ["value"]},
}
MACHINE = ((8, 4, 8), ((0, 1), (1, 0), (1, 2), (2, 0)))


def listed():
    """Return (the file's name, the function, the told names of its arguments) of all listed functions."""
    return [
        (file, getattr(importlib.import_module("narrowadds." + file), name), names)
        for file, functions in FUNCTIONS.items() for name, names in functions.items()
    ]


class Interface(unittest.TestCase):
    def test_each_function_is_defined_in_its_file(self):
        for file, function, _ in listed():
            self.assertTrue(inspect.isfunction(function))
            self.assertEqual(function.__module__, "narrowadds." + file)

    def test_arguments_have_the_told_names_and_order(self):
        for _, function, names in listed():
            self.assertEqual(list(inspect.signature(function).parameters), names, function.__name__)

    def test_calls_by_place_and_by_name_are_alike(self):
        worths = {"machine": MACHINE, "p": 2, "j": 1, "i": 2}
        for _, function, names in listed():
            for value in ((7, 3, 0), "8 4 8: 0>1 1>0 1>2 2>0"):
                if function.__name__ == "read_machine" and not isinstance(value, str):
                    continue
                told = {name: value if name == "value" else worths[name] for name in names}
                by_place = function(*[told[name] for name in names])
                self.assertEqual(repr(function(**told)), repr(by_place))
                self.assertEqual(repr(function(**dict(reversed(list(told.items()))))), repr(by_place))
