import re
import unittest
from itertools import product
from random import Random

from narrowadds.errors import BadText
from narrowadds.programs import backward, program_error
from narrowadds.programtexts import program_text, read_program
from tests.examples import check_examples
from tests.machinery import MACHINE, all_wires, great_machines, program_of, small_machines
from tests.values import other_values

EXAMPLES = """
    >>> from narrowadds.programs import backward
    >>> machine = ((8, 4, 8), ((0, 1), (1, 0), (1, 2), (2, 0)))
    >>> program = ((0, 1, 3), (1, 0, 2))
    >>> from narrowadds.programtexts import program_text, read_program
    >>> program_text(program), program_text(backward(program)), program_text(()), read_program(machine, "2>0*-5 0>1*0"), read_program(machine, "")
    ('0>1*3 1>0*2', '1>0*-2 0>1*-3', '', ((2, 0, -5), (0, 1, 0)), ())
    >>> read_program(machine, "1>0*3")
    raises BadText()
    >>> read_program(machine, "0>1*03")
    raises BadText()
    >>> read_program(machine, "0>1*3  1>0*2")
    raises BadText()
"""
NUMBER = "(?:0|[1-9][0-9]*)"
DEED = re.compile(f"({NUMBER})>({NUMBER})\\*(0|-?[1-9][0-9]{{0,200}})")


def told(machine, text):
    """Return the program of machine of which text is the text, None if there is none, told by a pattern."""
    if text == "":
        return ()
    matches = [DEED.fullmatch(word) for word in text.split(" ")]
    if None in matches:
        return None
    program = tuple(tuple(int(part) for part in match.groups()) for match in matches)
    return program if program_error(machine, program) is None else None


class Texts(unittest.TestCase):
    def test_examples_of_the_document(self):
        check_examples(self, EXAMPLES)

    def test_texts_as_they_are_told(self):
        self.assertEqual(program_text(()), "")
        self.assertEqual(program_text(((0, 1, 0),)), "0>1*0")
        self.assertEqual(program_text(((5, 4, -(10 ** 60)),)), "5>4*-1" + "0" * 60)
        self.assertEqual(program_text(((0, 1, 3),) * 3), "0>1*3 0>1*3 0>1*3")

    def test_there_and_back(self):
        random = Random(1)
        for machine in small_machines() + great_machines():
            for many in (0, 1, 2, 30):
                program = program_of(random, machine, many)
                for one in (program, backward(program)):
                    text = program_text(one)
                    self.assertEqual(repr(read_program(machine, text)), repr(one))
                    self.assertEqual(told(machine, text), one)

    def test_texts_there_and_back(self):
        for text in ("0>1*3", "1>0*-2 0>1*-3", "", "2>0*0", "0>1*1" + "0" * 60, "0>1*-1" + "0" * 60):
            self.assertEqual(program_text(read_program(MACHINE, text)), text)

    def test_unlike_programs_have_unlike_texts(self):
        deeds = [(j, i, c) for j, i in MACHINE[1] for c in (-12, -2, 0, 2, 12, 20)]
        programs = [row for many in range(3) for row in product(deeds, repeat=many)]
        self.assertEqual(len({program_text(program) for program in programs}), len(programs))

    def test_a_thousand_deeds(self):
        machine = ((10 ** 30,) * 6, all_wires(6))
        program = program_of(Random(2), machine, 1000)
        self.assertEqual(read_program(machine, program_text(program)), program)


class NoTexts(unittest.TestCase):
    def bad(self, value, machine=MACHINE):
        with self.assertRaises(BadText) as caught:
            read_program(machine, value)
        self.assertEqual(vars(caught.exception), {})

    def test_values_of_other_kinds(self):
        for value in other_values():
            if value == "":
                self.assertEqual(read_program(MACHINE, value), ())
            else:
                self.bad(value)
        for value in (("0>1*3",), ["0>1*3"], ((0, 1, 3),), {"0>1*3": 1}, 3, True, None):
            self.bad(value)

    def test_noughts_ahead_and_signs(self):
        for text in ("0>1*03", "00>1*3", "0>01*3", "0>1*-03", "0>1*-0", "0>1*00", "0>1*+3", "+0>1*3", "-0>1*3", "0>-1*3",
                     "0>1*--3", "0>1*-", "0>1*", "0>1*3-", "0>1*- 3", "0>1*3.0", "0>1*3e0", "0>1*0x3", "0>1*1_0"):
            self.bad(text)
            self.bad("0>1*3 " + text)
            self.bad(text + " 0>1*3")

    def test_blanks(self):
        for text in (" ", "  ", " 0>1*3", "0>1*3 ", "0>1*3  1>0*2", "0 >1*3", "0> 1*3", "0>1 *3", "0>1* 3",
                     "0>1*31>0*2", "0>1*3,1>0*2", "0>1*3\n", "\n0>1*3", "0>1*3\n1>0*2", "0>1*3 \n1>0*2", "\n"):
            self.bad(text)

    def test_parts_that_are_missing_or_too_many(self):
        for text in ("0", "0>1", ">1*3", "0>*3", "0*3", "0>1>2*3", "0>1*3*3", "0>1*3>0", "01*3", "0*1>3", "*", ">", ">*",
                     "a>1*3", "0>b*3", "0>1*c", "0>1*3;", "(0,1,3)", "0>1=3"):
            self.bad(text)

    def test_wires_that_are_none(self):
        for text in ("0>2*1", "2>1*2", "0>0*8", "1>1*0", "0>3*0", "3>0*0", "9>9*0", "0>" + "1" * 70 + "*3"):
            self.bad(text)
        self.bad("0>1*3", ((8, 4), ()))

    def test_factors_that_are_none(self):
        for text in ("1>0*3", "1>0*-1", "0>1*1" + "0" * 59 + "1", "0>1*-1" + "0" * 59 + "1", "0>1*2" + "0" * 60,
                     "0>1*" + "9" * 61, "0>1*1" + "0" * 61, "1>2*1"):
            self.bad(text)
            self.bad("0>1*3 " + text)

    def test_very_long_rows_of_figures(self):
        for many in (62, 100, 4299, 4300, 4301, 5000, 19990):
            for figure in "019":
                for text in ("0>1*" + figure * many, "0>1*-" + figure * many, figure * many + ">1*3",
                             "0>" + figure * many + "*3", figure * many):
                    self.bad(text)

    def test_figures_of_other_scripts(self):
        for figure in "\u0663\u00b3\uff13":
            for text in (f"0>1*{figure}", f"{figure}>1*3", f"0>{figure}*3"):
                self.bad(text)

    def test_thousands_of_deeds(self):
        many = 3000
        text = " ".join(["0>1*1"] * many)
        self.assertEqual(read_program(MACHINE, text), ((0, 1, 1),) * many)
        for wrong in ("1>0*3", "0>1*01", "", "0>2*1", "0>1", "x"):
            self.bad(text + " " + wrong)
            self.bad(wrong + " " + text)

    def test_each_sign_turned_dropped_or_added(self):
        text = "0>1*3 1>0*-2 2>0*10"
        for at in range(len(text) + 1):
            for sign in "0123 >*-+,:;ax\n":
                for turned in (text[:at] + sign + text[at:], text[:at] + sign + text[at + 1:], text[:at] + text[at + 1:]):
                    due = told(MACHINE, turned)
                    if due is None:
                        self.bad(turned)
                    else:
                        self.assertEqual(read_program(MACHINE, turned), due)

    def test_all_short_texts(self):
        for many in range(1, 7):
            for signs in product("01>*- " if many < 6 else "01>*-", repeat=many):
                text = "".join(signs)
                due = told(MACHINE, text)
                if due is None:
                    self.bad(text)
                else:
                    self.assertEqual(read_program(MACHINE, text), due)
