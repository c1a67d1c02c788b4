import unittest
from copy import deepcopy
from itertools import product
from random import Random

from narrowadds.squares import determinant, inverse_square, square_of
from tests.machinery import determinant_by_words


def squares():
    """Return squares of no row to six, with many noughts and with few, with small entries and with great ones."""
    random = Random(3)
    found = [[], [[0]], [[5]], [[0, 1], [1, 0]], [[0, 0], [0, 0]], [[0, 0, 1], [0, 1, 0], [1, 0, 0]]]
    found += [[list(entries[:2]), list(entries[2:])] for entries in product(range(-1, 3), repeat=4)]
    for many in range(1, 7):
        for most in (1, 2, 9, 10 ** 30):
            for _ in range(4):
                found.append([[random.randint(0, most) for _ in range(many)] for _ in range(many)])
    return found


class Determinants(unittest.TestCase):
    def test_they_are_the_sums_over_all_orders(self):
        for square in squares():
            same = deepcopy(square)
            self.assertEqual(determinant(square), determinant_by_words(square), square)
            self.assertEqual(square, same)


class Inverses(unittest.TestCase):
    def test_they_undo_modulo_the_prime(self):
        for p in (2, 3, 5, 97):
            for square in squares():
                if determinant_by_words(square) % p != 0:
                    many = range(len(square))
                    found = inverse_square(square, p)
                    for one, other in ((square, found), (found, square)):
                        self.assertEqual(
                            [[sum(one[i][k] * other[k][j] for k in many) % p for j in many] for i in many],
                            [[int(i == j) for j in many] for i in many])


class Parts(unittest.TestCase):
    def test_rows_and_columns_are_taken(self):
        table = ((1, 2, 3), (4, 5, 6), (7, 8, 9))
        self.assertEqual(square_of(table, (0, 2)), [[1, 3], [7, 9]])
        self.assertEqual(square_of(table, [1]), [[5]])
        self.assertEqual(square_of(table, ()), [])
