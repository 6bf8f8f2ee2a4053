"""Characteristic and minimal polynomials of square matrices over a field (points 100 to 103)."""

from math import lcm

from echelon.coefficients import restored
from echelon.domains import add, divide, greatest, multiply, need_field, negate, one, zero
from echelon.gauss import eliminated
from echelon.matrices import applied, identity, need_length, need_square, transposed
from echelon.rows import (
    cleared_row, cleared_rows, determinant_of_rows, dot, product_of, restored_entry,
)

LARGE_PRIME = 2305843009213693951


def characteristic(f, a):
    """Return the characteristic polynomial of a square matrix."""
    need_field(f)
    need_square(a)
    rows, scales = cleared_rows(f, a[2])
    values = []
    for x in range(len(rows) + 1):
        shifted = [[-c for c in row] for row in rows]
        for k, m in enumerate(scales):
            shifted[k][k] += x * m
        values.append(determinant_of_rows(("Z",), shifted))
    return restored(f, interpolated(values), product_of(scales))


def interpolated(values):
    """Return the list that has these values at 0, 1, 2 and so on; all its numbers are integers."""
    steps = list(values)
    many = len(steps)
    for k in range(1, many):
        for i in range(many - 1, k - 1, -1):
            # The divided differences of a list of integers are integers.
            steps[i] = (steps[i] - steps[i - 1]) // k
    out = []
    for k in range(many - 1, -1, -1):
        raised = [0] + out
        lower = [k * c for c in out] + [0]
        out = [c - e for c, e in zip(raised, lower)]
        out[0] += steps[k]
    return out


def orbit(f, a, v):
    """Return (vectors, m): v, m a v, m m a a v and so on, each as a row of integers up to a factor.

    There are more of them than the matrix has rows.
    """
    rows, scales = cleared_rows(f, a[2])
    m = 1
    for k in scales:
        m = lcm(m, k)
    rows = [[c * (m // k) for c in row] for row, k in zip(rows, scales)]
    out = [cleared_row(f, v)[0]]
    for _ in range(len(rows)):
        last = out[-1]
        out.append([dot(f, row, last) for row in rows])
    return out, m


def annihilator(f, a, v):
    """Return the monic polynomial g of the lowest degree for which g(a) v is zero."""
    need_field(f)
    need_square(a)
    need_length(v, a[0])
    vectors, m = orbit(f, a, v)
    if f[0] == "Q" and are_independent(vectors[:a[0]]):
        return characteristic(f, a)
    columns = [list(row) for row in zip(*vectors)]
    rows, _, pivots, factor = eliminated(f, columns, len(vectors))
    # The first vector without a pivot is a combination of those before it, the pivots of which
    # are all alike.
    many = len(pivots)
    out = [one(f)]
    scale = factor
    for k in range(many - 1, -1, -1):
        scale *= m
        out.append(restored_entry(f, -rows[k][many], scale))
    return tuple(out[::-1])


def are_independent(rows):
    """Return whether rows of integers are independent modulo a prime; then they are, anyway."""
    rest = [[c % LARGE_PRIME for c in row] for row in rows]
    return len(eliminated(("F", LARGE_PRIME), rest, len(rows))[2]) == len(rows)


def krylov(f, a, v):
    """Return the matrix with the columns v, a v, a a v and so on, as many as are independent."""
    columns = []
    moved = v
    for _ in range(len(annihilator(f, a, v)) - 1):
        columns.append(moved)
        moved = applied(f, a, moved)
    return transposed((len(columns), a[0], tuple(columns)))


def minimal(f, a):
    """Return the monic polynomial of the lowest degree that takes the matrix to zero."""
    return generator(f, a)[1]


def cyclic_vector(f, a):
    """Return a vector whose annihilator is the minimal polynomial."""
    return generator(f, a)[0]


def generator(f, a):
    """Return (v, g): a vector and its annihilator, which is the minimal polynomial."""
    need_field(f)
    need_square(a)
    v, g = (zero(f),) * a[0], (one(f),)
    for w in identity(f, a[0])[2]:
        if len(g) > a[0]:
            break
        h = annihilator(f, a, w)
        if divide(("P", f), g, h)[1]:
            v, g = joined(f, a, (v, g), (w, h))
    return v, g


def joined(f, a, first, second):
    """Return a pair (v, g) of a vector and its annihilator that both annihilators divide."""
    d = ("P", f)
    v, g = first
    w, h = second
    # No factor of one half divides the other half: the second one takes those that divide h
    # more often than g, and the first one all the others.
    more = divide(d, h, greatest(d, g, h)[0])[0]
    both = multiply(d, g, more)
    half = g
    shared = greatest(d, half, more)[0]
    while len(shared) > 1:
        half = divide(d, half, shared)[0]
        shared = greatest(d, half, more)[0]
    other = divide(d, both, half)[0]
    left = value_at(f, a, divide(d, g, half)[0], v)
    right = value_at(f, a, divide(d, h, other)[0], w)
    return tuple([add(f, x, y) for x, y in zip(left, right)]), both


def value_at(f, a, g, v):
    """Return g(a) v."""
    out = (zero(f),) * len(v)
    for c in reversed(g):
        out = tuple([add(f, x, multiply(f, c, y)) for x, y in zip(applied(f, a, out), v)])
    return out


def companion(f, g):
    """Return the companion matrix of a monic polynomial of a degree of at least 1."""
    need_field(f)
    n = len(g) - 1
    rows = []
    for k in range(n):
        row = [zero(f)] * n
        if k:
            row[k - 1] = one(f)
        row[n - 1] = negate(f, g[k])
        rows.append(tuple(row))
    return n, n, tuple(rows)
