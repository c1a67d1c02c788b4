import unittest
from copy import deepcopy
from itertools import combinations, product
from random import Random

from narrowadds.squares import determinant, inverse_square, pivots, square_of
from tests.machinery import determinant_by_words


def squares():
    """Return squares of no row to six, with many noughts and with few, with small entries and with great ones."""
    random = Random(3)
    found = [[], [[0]], [[5]], [[0, 1], [1, 0]], [[0, 0], [0, 0]], [[0, 0, 1], [0, 1, 0], [1, 0, 0]]]
    found += [[list(entries[:2]), list(entries[2:])] for entries in product(range(-1, 3), repeat=4)]
    for many in range(1, 7):
        for most in (1, 2, 9, 10 ** 30):
            for _ in range(4):
                found.append([[random.randint(0, most) for _ in range(many)] for _ in range(many)])
    return found


class Determinants(unittest.TestCase):
    def test_they_are_the_sums_over_all_orders(self):
        for square in squares():
            same = deepcopy(square)
            self.assertEqual(determinant(square), determinant_by_words(square), square)
            self.assertEqual(square, same)


class Inverses(unittest.TestCase):
    def test_they_undo_modulo_the_prime(self):
        for p in (2, 3, 5, 97):
            for square in squares():
                if determinant_by_words(square) % p != 0:
                    many = range(len(square))
                    found = inverse_square(square, p)
                    for one, other in ((square, found), (found, square)):
                        self.assertEqual(
                            [[sum(one[i][k] * other[k][j] for k in many) % p for j in many] for i in many],
                            [[int(i == j) for j in many] for i in many])


class Parts(unittest.TestCase):
    def test_rows_and_columns_are_taken(self):
        table = ((1, 2, 3), (4, 5, 6), (7, 8, 9))
        self.assertEqual(square_of(table, (0, 2)), [[1, 3], [7, 9]])
        self.assertEqual(square_of(table, [1]), [[5]])
        self.assertEqual(square_of(table, ()), [])


class Pivots(unittest.TestCase):
    def test_they_are_the_first_columns_that_do_not_hang_on_one_another(self):
        random = Random(4)
        for p in (2, 3, 5, 97):
            for _ in range(60):
                many, wide = random.randint(0, 5), random.randint(1, 5)
                rows = [[random.randint(-3, 3) * random.choice((0, 1, 1, p)) for _ in range(wide)] for _ in range(many)]
                same = deepcopy(rows)
                found = pivots(rows, p)
                self.assertEqual(rows, same)
                due = []
                for k in range(wide):
                    if rank_by_words([[row[j] for j in due + [k]] for row in rows], p) > len(due):
                        due.append(k)
                self.assertEqual(found, due, (rows, p))


def rank_by_words(rows, p):
    """Return the greatest number of rows and columns with a determinant that is no multiple of p."""
    for many in range(min(len(rows), len(rows[0]) if rows else 0), 0, -1):
        for some in combinations(rows, many):
            for columns in combinations(range(len(rows[0])), many):
                if determinant_by_words([[row[j] for j in columns] for row in some]) % p != 0:
                    return many
    return 0
