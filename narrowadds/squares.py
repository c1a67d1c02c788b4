"""Squares of integers: lists of rows, as many as each of them has entries."""

from narrowadds.integers import inverse


def square_of(table, registers):
    """Return the square of the entries of table in the rows and the columns of registers."""
    return [[table[i][j] for j in registers] for i in registers]


def determinant(square):
    """Return the determinant of square, 1 if it has no rows."""
    rows = [list(row) for row in square]
    many = len(rows)
    sign = 1
    last = 1
    for k in range(many):
        at = row_with_entry(rows, k, k)
        if at is None:
            return 0
        if at != k:
            rows[k], rows[at] = rows[at], rows[k]
            sign = -sign
        # Bareiss' steps: what is divided by the last corner is a multiple of it, so all stays among integers.
        for i in range(k + 1, many):
            for j in range(k + 1, many):
                rows[i][j] = (rows[k][k] * rows[i][j] - rows[i][k] * rows[k][j]) // last
        last = rows[k][k]
    return sign * last


def row_with_entry(rows, first, k):
    """Return the first row, from first on, that has another entry than 0 in the column k, None if there is none."""
    for at in range(first, len(rows)):
        if rows[at][k] != 0:
            return at
    return None


def inverse_square(square, p):
    """Return the square that undoes square modulo the prime p, which does not divide its determinant."""
    many = len(square)
    rows = [[entry % p for entry in square[i]] + [1 if j == i else 0 for j in range(many)] for i in range(many)]
    for k in range(many):
        at = row_with_entry(rows, k, k)
        rows[k], rows[at] = rows[at], rows[k]
        unit = inverse(rows[k][k], p)
        rows[k] = [unit * entry % p for entry in rows[k]]
        for i in range(many):
            if i != k:
                rows[i] = row_less(rows[i], rows[i][k], rows[k], p)
    return [row[many:] for row in rows]


def row_less(row, times, other, p):
    """Return row less so many times other, modulo p."""
    return [(entry - times * taken) % p for entry, taken in zip(row, other)]


def pivots(rows, p):
    """Return the columns, in order, in which rows brought to steps modulo the prime p begin.

    There are as many as rows just if these are not dependent modulo p.
    """
    left = [[entry % p for entry in row] for row in rows]
    found = []
    for k in range(len(rows[0]) if rows else 0):
        at = row_with_entry(left, 0, k)
        if at is not None:
            top = left.pop(at)
            unit = inverse(top[k], p)
            left = [row_less(row, unit * row[k], top, p) for row in left]
            found.append(k)
    return found
