import unittest
from math import gcd

from narrowadds.errors import BadText
from narrowadds.figures import read_figures
from narrowadds.integers import how_often, inverse, power_of


class Integers(unittest.TestCase):
    def test_how_often(self):
        for p in (2, 3, 97):
            for times in range(8):
                for rest in (1, 5, -7, 10 ** 30 + 1 if p == 2 else 5):
                    self.assertEqual(how_often(p, rest * p ** times), times)

    def test_powers(self):
        for base in (2, 3, 97):
            for times in (0, 1, 2, 99, 594):
                self.assertEqual(power_of(base, times), base ** times)

    def test_inverses(self):
        for modulus in list(range(1, 40)) + [2 ** 99, 3 ** 62, 97 ** 15]:
            for number in range(-50, 50):
                if gcd(number, modulus) == 1:
                    found = inverse(number, modulus)
                    self.assertEqual(number * found % modulus, 1 % modulus)
                    self.assertTrue(0 <= found < modulus)


class Figures(unittest.TestCase):
    def test_rows_of_figures(self):
        for word, due in (("0", 0), ("7", 7), ("007", 7), ("100", 100), ("999", 999)):
            self.assertEqual(read_figures(word, 100), due)

    def test_what_is_none(self):
        for word in ("", "-1", "+1", " 1", "1 ", "1000", "0001", "a", "1_0", "\u0661", "\u00b2", "9" * 20000):
            with self.assertRaises(BadText):
                read_figures(word, 100)
