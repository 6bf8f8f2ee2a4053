"""Elimination over a field (points 45 to 51)."""

from echelon.domains import need_field, negate, one, zero
from echelon.errors import SingularError
from echelon.gauss import eliminated, triangular
from echelon.matrices import beside, identity, need_length, need_square, part, transposed
from echelon.rows import (
    cleared_rows, determinant_of_rows, product_of, restored_entry, restored_row,
)


def reduce(f, a):
    """Return (r, t, s, pivots): the reduced echelon form r = t a, and t s the identity."""
    need_field(f)
    m, n = a[0], a[1]
    rows, scales = cleared_rows(f, beside(a, identity(f, m))[2])
    rows, order, pivots, factor = eliminated(f, rows, n)
    r, t = [], []
    for k in range(m):
        # A row without a pivot takes one times the row that it was at first.
        scale = factor if k < len(pivots) else factor * scales[order[k]]
        r.append(restored_row(f, rows[k][:n], scale))
        t.append(restored_row(f, rows[k][n:], scale))
    every = list(range(m))
    s = beside(part(a, every, pivots), part(identity(f, m), every, order[len(pivots):]))
    return (m, n, tuple(r)), (m, m, tuple(t)), s, tuple(pivots)


def echelon_rows(f, a):
    """Return (rows, pivots): the rows of the reduced echelon form that are not zero."""
    rows, _, pivots, factor = eliminated(f, cleared_rows(f, a[2])[0], a[1])
    return [restored_row(f, row, factor) for row in rows[:len(pivots)]], pivots


def rank(f, a):
    """Return the number of the pivots."""
    need_field(f)
    return len(eliminated(f, cleared_rows(f, a[2])[0], a[1])[2])


def kernel(f, a):
    """Return the matrix whose columns are a basis of the vectors v with a v = 0."""
    need_field(f)
    rows, pivots = echelon_rows(f, a)
    n = a[1]
    columns = []
    for j in range(n):
        if j not in pivots:
            column = [zero(f)] * n
            column[j] = one(f)
            for k, at in enumerate(pivots):
                column[at] = negate(f, rows[k][j])
            columns.append(tuple(column))
    return transposed((len(columns), n, tuple(columns)))


def extended(a, b):
    """Return the matrix a with the vector b as a further column."""
    need_length(b, a[0])
    return beside(a, (a[0], 1, tuple([(x,) for x in b])))


def solve(f, a, b):
    """Return the solution x of a x = b that is zero at all columns without a pivot, or None."""
    need_field(f)
    n = a[1]
    rows = cleared_rows(f, extended(a, b)[2])[0]
    rows, _, pivots, factor = eliminated(f, rows, n)
    for row in rows[len(pivots):]:
        if row[n]:
            return None
    x = [zero(f)] * n
    for k, at in enumerate(pivots):
        x[at] = restored_entry(f, rows[k][n], factor)
    return tuple(x)


def refute(f, a, b):
    """Return y with y a = 0 whose product with b is one, or None if a x = b has a solution."""
    need_field(f)
    n = a[1]
    rows = cleared_rows(f, beside(extended(a, b), identity(f, a[0]))[2])[0]
    rows, _, pivots, _ = eliminated(f, rows, n)
    for row in rows[len(pivots):]:
        if row[n]:
            return restored_row(f, row[n + 1:], row[n])
    return None


def inverted(f, a):
    """Return the inverse of a square matrix."""
    need_field(f)
    need_square(a)
    n = a[0]
    rows = cleared_rows(f, beside(a, identity(f, n))[2])[0]
    rows, _, pivots, factor = eliminated(f, rows, n)
    if len(pivots) < n:
        raise SingularError("the matrix has no inverse")
    return n, n, tuple([restored_row(f, row[n:], factor) for row in rows])


def split(f, a):
    """Return (order, l, u): the row k of l u is the row order[k] of a."""
    need_field(f)
    need_square(a)
    n = a[0]
    rows, scales = cleared_rows(f, a[2])
    rows, order, taken, leads = triangular(f, rows)
    l, u = [], []
    for i in range(n):
        many = scales[order[i]]
        row = [restored_entry(f, c * scales[order[k]], e * many) for k, (c, e) in enumerate(taken[i])]
        l.append(tuple(row + [one(f)] + [zero(f)] * (n - 1 - i)))
        u.append(restored_row(f, rows[i], leads[i] * many))
    return tuple(order), (n, n, tuple(l)), (n, n, tuple(u))


def sign(order):
    """Return 1 if an even number of exchanges leads to the order, otherwise -1."""
    place = list(order)
    out = 1
    for k in range(len(place)):
        while place[k] != k:
            other = place[k]
            place[k], place[other] = place[other], other
            out = -out
    return out


def determinant(f, a):
    """Return the determinant of a square matrix."""
    need_field(f)
    need_square(a)
    rows, scales = cleared_rows(f, a[2])
    return restored_entry(f, determinant_of_rows(("Z",), rows), product_of(scales))


def column_basis(f, a):
    """Return the tuple of the columns of the pivots."""
    need_field(f)
    return tuple(echelon_rows(f, a)[1])


def factors(f, a):
    """Return (c, r): the columns of the pivots and the rows of the echelon form; c r = a."""
    need_field(f)
    rows, pivots = echelon_rows(f, a)
    return part(a, list(range(a[0])), pivots), (len(rows), a[1], tuple(rows))
