import re
import unittest
from copy import deepcopy
from itertools import combinations

from narrowadds.errors import BadText
from narrowadds.machines import machine_error
from narrowadds.machinetexts import machine_text, read_machine
from tests.examples import check_examples
from tests.values import other_values

EXAMPLES = """
    >>> machine, mixed = ((8, 4, 8), ((0, 1), (1, 0), (1, 2), (2, 0))), ((12, 18, 5), ((0, 1), (1, 0)))
    >>> from narrowadds.machinetexts import machine_text, read_machine
    >>> machine_text(machine), machine_text(((6,), ())), read_machine("12 18 5: 0>1 1>0") == mixed, read_machine("97:")
    ('8 4 8: 0>1 1>0 1>2 2>0', '6:', True, ((97,), ()))
    >>> read_machine("8 4:0>1")
    raises BadText()
    >>> read_machine("8 4: 1>0 0>1")
    raises BadText()
    >>> read_machine("08 4:")
    raises BadText()
"""
NUMBER = "(?:0|[1-9][0-9]*)"
WHOLE = re.compile(f"({NUMBER}(?: {NUMBER})*):((?: {NUMBER}>{NUMBER})*)")


def told(text):
    """Return the machine of which text is the text, None if there is none, told by a pattern."""
    match = WHOLE.fullmatch(text)
    if match is None:
        return None
    sizes = tuple([int(word) for word in match[1].split()])
    wires = tuple([tuple([int(part) for part in word.split(">")]) for word in match[2].split()])
    return (sizes, wires) if machine_error((sizes, wires)) is None else None


def machines():
    """Return machines of one register to six, without wires, with some and with all."""
    found = []
    for sizes in ((2,), (10 ** 30,), (8, 4), (12, 18, 5), (2, 3, 4, 97), (10 ** 30,) * 5, (2 ** 99, 9, 5, 49, 6, 97)):
        wires = [(j, i) for j in range(len(sizes)) for i in range(len(sizes)) if j != i]
        found.append((sizes, tuple(wires)))
        for many in range(3):
            found.extend([(sizes, some) for some in combinations(wires, many)])
    return found


class Texts(unittest.TestCase):
    def test_examples_of_the_document(self):
        check_examples(self, EXAMPLES)

    def test_texts_as_they_are_told(self):
        self.assertEqual(machine_text(((2,), ())), "2:")
        self.assertEqual(machine_text(((10 ** 30, 97), ((1, 0),))), "1" + "0" * 30 + " 97: 1>0")
        wires = tuple([(j, i) for j in range(6) for i in range(6) if j != i])
        text = machine_text(((2,) * 6, wires))
        self.assertEqual(text[:20], "2 2 2 2 2 2: 0>1 0>2")
        self.assertEqual(len(text), 12 + 30 * 4)

    def test_there_and_back(self):
        for machine in machines():
            self.assertIsNone(machine_error(machine))
            text = machine_text(machine)
            self.assertEqual(repr(read_machine(text)), repr(machine))
            self.assertEqual(told(text), machine)

    def test_unlike_machines_have_unlike_texts(self):
        unlike = set(machines())
        self.assertEqual(len({machine_text(machine) for machine in unlike}), len(unlike))


class NoTexts(unittest.TestCase):
    def bad(self, value):
        with self.assertRaises(BadText) as caught:
            read_machine(value)
        self.assertEqual(vars(caught.exception), {})

    def test_values_of_other_kinds(self):
        for value in other_values():
            self.bad(value)
        for value in (((8, 4), ()), ["8", "4", ":"], ("8 4:",), {"8 4:": 1}, b"8 4:", 8, 84):
            self.bad(value)

    def test_noughts_ahead(self):
        for text in ("08:", "8 04:", "00:", "8 4: 00>1", "8 4: 0>01", "8 4: 01>0", "008 4: 0>1"):
            self.bad(text)

    def test_blanks(self):
        for text in (" 8 4:", "8  4:", "8 4 :", "8 4: ", "8 4:  0>1", "8 4: 0>1 ", "8 4: 0>1  1>0", "8 4:0>1",
                     "8 4: 0>11>0", "8 4: 0 >1", "8 4: 0> 1", "84 :", "8 4 : 0>1", "\t8 4:", "8\t4:", "8 4:\n", "\n8 4:",
                     "8 4: 0>1\n", "8\n4:", "8 4:\n0>1", " :", "8 4:x 0>1", "8 4:0>1 1>0"):
            self.bad(text)

    def test_signs_and_figures(self):
        for text in ("+8 4:", "-8 4:", "8 -4:", "8 4: +0>1", "8 4: 0>+1", "8 4: -0>1", "8 4: 0>-1", "8,4:", "8 4;",
                     "8_0 4:", "8.0 4:", "8e1:", "0x8:", "8 4: 0>1>0", "8 4: 0>>1", "8 4: >1", "8 4: 0>", "8 4: >",
                     "8 4: 0<1", "8 4: 0-1", "8 4: 01", "8 4::", "8 4:: 0>1", "8 4: 0>1:", ":8 4:", "8 4", "8 4 0>1",
                     ":", ": 0>1", "", "a:", "8 a:", "8 4: a>b", "8 4: 0>1 x", "eight four:"):
            self.bad(text)

    def test_figures_of_other_scripts(self):
        for figure in ("\u0668", "\u00b2", "\uff18", "\u2167"):
            for text in (figure + ":", "8 " + figure + ":", "8 4: 0>" + figure):
                self.bad(text)

    def test_what_is_no_machine(self):
        for text in ("1:", "0:", "101:", "8 103:", str(10 ** 30 + 1) + ":", str(97 * 97 * 101) + ":", "2 2 2 2 2 2 2:",
                     "8 4: 0>0", "8 4: 0>2", "8 4: 2>0", "8 4: 1>0 0>1", "8 4: 0>1 0>1", "8: 0>1", "8 4: 0>10",
                     "8 4: 10>0", str(2 ** 100) + ":"):
            self.bad(text)

    def test_very_long_rows_of_figures(self):
        for many in (31, 32, 400, 4300, 4301, 19990):
            nines = "9" * many
            for text in (nines + ":", "8 " + nines + ":", "8 4: 0>" + nines, "8 4: " + nines + ">0", nines):
                self.bad(text)
            self.bad("0" * many + "8:")
            self.bad("1" + "0" * many + ":")
            self.bad("8 4: 0>" + "0" * many + "1")

    def test_very_long_texts(self):
        for text in ("8 " * 9999 + "8:", "8 4:" + " 0>1" * 4999, " " * 20000, ":" * 20000, ">" * 20000,
                     "8:" + " " * 19998, "8 4: " + ">" * 19995):
            self.bad(text)

    def test_each_change_of_one_sign(self):
        for text in ("6:", "12 18 5: 0>1 1>0", "8 4 8: 0>1 1>0 1>2 2>0", "10 2: 1>0"):
            for changed in changed_texts(text):
                machine = told(changed)
                if machine is None:
                    self.bad(changed)
                else:
                    self.assertEqual(repr(read_machine(changed)), repr(machine))


class Calls(unittest.TestCase):
    def test_nothing_that_is_handed_in_is_changed(self):
        for value in (["8 4:"], {"8 4:": [1]}, [[8, 4], []]):
            same = deepcopy(value)
            self.assertRaises(BadText, read_machine, value)
            self.assertEqual(value, same)

    def test_equal_calls_get_equal_results(self):
        for _ in range(2):
            self.assertEqual(read_machine("8 4: 0>1"), ((8, 4), ((0, 1),)))
            self.assertRaises(BadText, read_machine, "8 4: 0>2")
            self.assertEqual(machine_text(((8, 4), ((0, 1),))), "8 4: 0>1")


def changed_texts(text):
    """Return all texts that are text with one sign put in, taken out or changed, or two that change places."""
    signs = "0123456789 :>-+a\n"
    found = [text[:at] + text[at + 1:] for at in range(len(text))]
    found += [text[:at] + sign + text[at:] for at in range(len(text) + 1) for sign in signs]
    found += [text[:at] + sign + text[at + 1:] for at in range(len(text)) for sign in signs]
    found += [text[:at] + text[at + 1] + text[at] + text[at + 2:] for at in range(len(text) - 1)]
    return found
