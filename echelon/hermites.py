"""Hermite forms of rows without fractions, the inner side of echelon.euclid (point 60).

Rows are put one by one into a table that is in Hermite form, but for units over polynomials.
As every entry above a pivot stays smaller than it, numbers do not grow far beyond those of the
answer.
"""

from echelon.coefficients import divided, euclid, without_content
from echelon.numbers import common
from echelon.rows import dot, one_entry, opposite, zero_entry


def divided_entry(d, x, y):
    """Return (k, q, r) with k x = q y + r, where k is a number and r is smaller than y."""
    if d[0] == "P":
        return divided(d[1], x, y)
    rest = x % abs(y)
    return 1, (x - rest) // y, rest


def constant(d, k):
    """Return the entry that is a number."""
    return [k] if d[0] == "P" else k


def mixed(d, s, u, t, v):
    """Return the row s u + t v."""
    weights = s, t
    return [dot(d, weights, pair) for pair in zip(u, v)]


def plain_row(d, row):
    """Return the row without the common factor of all its numbers, if that is a unit."""
    return without_content(row) if d == ("P", ("Q",)) else row


def cleaning(d, x, y):
    """Return entries (s, t, q, r): s x + t y divides x and y, and q x + r y is zero.

    The matrix of the four has an inverse over the domain. If x divides y, t is zero.
    """
    k, q, rest = divided_entry(d, y, x)
    if not rest:
        return one_entry(d), zero_entry(d), opposite(d, q), constant(d, k)
    if d[0] == "P":
        old, new = euclid(d[1], x, y)
        return old[1], old[2], new[1], new[2]
    g, s, t = common(x, y)
    return s, t, -y // g, x // g


def put_row(d, table, row):
    """Put a row into the table, which has at each place the row with its pivot there, or []."""
    for j in range(len(table)):
        if not row[j]:
            continue
        held = table[j]
        if not held:
            table[j] = row
            return
        s, t, q, r = cleaning(d, held[j], row[j])
        if t:
            table[j] = plain_row(d, mixed(d, s, held, t, row))
        row = plain_row(d, mixed(d, q, held, r, row))


def tidy(d, table):
    """Make the pivots of the table positive and each entry above one its own remainder."""
    for i in range(len(table) - 1, -1, -1):
        if table[i] and d[0] == "Z" and table[i][i] < 0:
            table[i] = [-x for x in table[i]]
        for j in range(i + 1, len(table)):
            if table[i] and table[j]:
                k, q, _ = divided_entry(d, table[i][j], table[j][j])
                if q:
                    row = mixed(d, constant(d, k), table[i], opposite(d, q), table[j])
                    table[i] = plain_row(d, row)


def hermite_table(d, rows, n):
    """Return the list that has at each of n places the row with its pivot there, or []."""
    table = [[] for _ in range(n)]
    for row in rows:
        put_row(d, table, plain_row(d, list(row)))
        tidy(d, table)
    return table
