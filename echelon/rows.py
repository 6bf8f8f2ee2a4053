"""Entries of matrices without fractions, the inner side of the modules about matrices.

An entry over ("Z",) or ("F", p) is the element itself. Over ("Q",) it is an integer, and over
("P", f) a list of integers: the element times one denominator for all entries of its row.
"""

from math import lcm

from echelon.coefficients import cleared, convolved, restored, trimmed
from echelon.divisors import exact
from echelon.numbers import common, fraction


def cleared_row(d, v):
    """Return (row, m): the row of the entries of the vector row / m."""
    if d[0] == "Q":
        return cleared(d, v)
    if d[0] != "P":
        return list(v), 1
    if d[1][0] == "F":
        return [list(x) for x in v], 1
    m = 1
    for x in v:
        for c in x:
            m = lcm(m, c[1])
    return [[c[0] * (m // c[1]) for c in x] for x in v], m


def cleared_rows(d, rows):
    """Return the rows without fractions and the list of their denominators."""
    pairs = [cleared_row(d, v) for v in rows]
    return [row for row, _ in pairs], [m for _, m in pairs]


def product_of(numbers):
    """Return the product of integers."""
    out = 1
    for k in numbers:
        out *= k
    return out


def restored_entry(d, x, m):
    """Return the element x / m."""
    if d[0] == "Q":
        return fraction(x, m)
    if d[0] == "F":
        return x * common(m, d[1])[1] % d[1]
    if d[0] == "P":
        return restored(d[1], x, m)
    return x


def restored_row(d, row, m):
    """Return the vector row / m."""
    return tuple([restored_entry(d, x, m) for x in row])


def dot(d, u, v):
    """Return the product of two rows."""
    if d[0] == "P":
        return dot_of_lists(d[1], u, v)
    total = sum([x * y for x, y in zip(u, v)])
    return total % d[1] if d[0] == "F" else total


def dot_of_lists(f, u, v):
    """Return the sum of the products of lists."""
    out = []
    for x, y in zip(u, v):
        short, out = out, convolved(x, y)
        if len(short) > len(out):
            short, out = out, short
        for k, c in enumerate(short):
            out[k] += c
    if f[0] == "F":
        out = [c % f[1] for c in out]
    return trimmed(out)


def exact_entry(d, x, y):
    """Return the entry x / y, which is known to be one; y is not zero."""
    return exact(d[1], x, y) if d[0] == "P" else x // y


def one_entry(d):
    """Return the entry that is one."""
    return [1] if d[0] == "P" else 1


def zero_entry(d):
    """Return the entry that is zero."""
    return [] if d[0] == "P" else 0


def opposite(d, x):
    """Return zero less an entry."""
    return [-c for c in x] if d[0] == "P" else -x


def determinant_of_rows(d, rows):
    """Return the determinant of rows over ("Z",) or over polynomials.

    By the rule of Bareiss all entries on the way are determinants of parts of the matrix, so
    that each division is exact.
    """
    rows = list(rows)
    last = one_entry(d)
    for k in range(len(rows)):
        at = first_row(rows, k, k)
        if at is None:
            return zero_entry(d)
        if at != k:
            rows[k], rows[at] = rows[at], [opposite(d, x) for x in rows[k]]
        by = rows[k]
        for i in range(k + 1, len(rows)):
            weights = by[k], opposite(d, rows[i][k])
            rows[i] = [exact_entry(d, dot(d, weights, pair), last) for pair in zip(rows[i], by)]
        last = by[k]
    return last


def first_row(rows, column, start):
    """Return the number of the first row from start on with an entry in a column, or None."""
    for k in range(start, len(rows)):
        if rows[k][column]:
            return k
    return None
