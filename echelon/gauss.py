"""Elimination in rows of integers, the inner side of echelon.elimination.

Over ("Q",) the rows keep one common factor, the last pivot: by the rule of Bareiss all numbers
are then determinants of parts of the matrix, and no division leaves a remainder.
"""

from echelon.numbers import common
from echelon.rows import first_row


def cleaned(f, row, by, column, last):
    """Return a row less a multiple of the row by, so that it has a zero in the column."""
    c, top = row[column], by[column]
    if f[0] == "F":
        p = f[1]
        many = c * common(top, p)[1]
        return [(x - many * y) % p for x, y in zip(row, by)]
    return [(top * x - c * y) // last for x, y in zip(row, by)]


def exchange(things, i, k):
    """Exchange two members of a list."""
    things[i], things[k] = things[k], things[i]


def eliminated(f, rows, many):
    """Bring the first many columns of rows into reduced echelon form, up to a common factor.

    Return (rows, order, pivots, factor): the pivots are all equal to the factor, and order
    has the number that each row had at first.
    """
    rows = list(rows)
    order = list(range(len(rows)))
    pivots = []
    last = 1
    for column in range(many):
        k = len(pivots)
        at = first_row(rows, column, k)
        if at is None:
            continue
        exchange(rows, k, at)
        exchange(order, k, at)
        if f[0] == "F":
            unit = common(rows[k][column], f[1])[1]
            rows[k] = [x * unit % f[1] for x in rows[k]]
        by = rows[k]
        for i in range(len(rows)):
            if i != k:
                rows[i] = cleaned(f, rows[i], by, column, last)
        pivots.append(column)
        last = by[column]
    return rows, order, pivots, last


def triangular(f, rows):
    """Bring square rows into upper triangular form by elimination downwards.

    Return (rows, order, taken, leads): row k is a multiple of that of the form by leads[k],
    order has the number that each row had at first, and taken[i][k], for k less than i, is the
    pair (c, e) of numbers for which c / e times the row k was taken from row i.
    """
    rows = list(rows)
    order = list(range(len(rows)))
    taken = [[] for _ in rows]
    leads = []
    last = 1
    for k in range(len(rows)):
        leads.append(last)
        at = first_row(rows, k, k)
        if at is None:
            for i in range(k + 1, len(rows)):
                taken[i].append((0, 1))
            continue
        exchange(rows, k, at)
        exchange(order, k, at)
        exchange(taken, k, at)
        by = rows[k]
        for i in range(k + 1, len(rows)):
            taken[i].append((rows[i][k], by[k]))
            rows[i] = cleaned(f, rows[i], by, k, last)
        if f[0] == "Q":
            last = by[k]
    return rows, order, taken, leads
