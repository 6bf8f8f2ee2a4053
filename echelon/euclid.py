"""Normal forms over Euclidean domains, systems over the integers (points 60 to 67)."""

from echelon.domains import divide, greatest, multiply, need_euclidean, negate, one, zero
from echelon.elimination import solve
from echelon.errors import ShapeError
from echelon.hermites import constant, divided_entry, hermite_table, mixed
from echelon.matrices import (
    beside, change, identity, need_length, need_square, row_times, times, transposed,
)
from echelon.numbers import fraction
from echelon.rows import (
    cleared_rows, determinant_of_rows, dot, opposite, product_of, restored_entry, restored_row,
)

WHOLE = ("Z",)
RATIONAL = ("Q",)


def hermite(d, a):
    """Return (h, u, v): the Hermite form h = u a, and u v the identity."""
    need_euclidean(d)
    m, n = a[0], a[1]
    # The Hermite form of a with the identity beside it is h with u beside it.
    rows, scales = cleared_rows(d, beside(a, identity(d, m))[2])
    table = hermite_table(d, rows, n + m)
    places = [j for j in range(n + m) if table[j]]
    found = [restored_row(d, table[j], unit_of(d, table[j][j])) for j in places]
    corner = [[table[i][j] for j in places] for i in places]
    v = [coordinates(d, corner, [row[j] for j in places], k) for row, k in zip(rows, scales)]
    h, u = [row[:n] for row in found], [row[n:] for row in found]
    return (m, n, tuple(h)), (m, m, tuple(u)), (m, m, tuple(v))


def unit_of(d, x):
    """Return the number by which the entry is divided to be normal."""
    return x[-1] if d[0] == "P" else 1


def coordinates(d, corner, row, scale):
    """Return the vector whose product with the normal rows of an upper triangle is row / scale."""
    out = []
    for at, by in enumerate(corner):
        k, q, _ = divided_entry(d, row[at], by[at])
        scale *= k
        top = constant(d, unit_of(d, by[at]))
        out.append(restored_entry(d, dot(d, (top,), (q,)), scale))
        row = mixed(d, constant(d, k), row, opposite(d, q), by)
    return tuple(out)


def smith(d, a):
    """Return (s, u, v, x, y): the Smith form s = u a v, and u x and v y are identities."""
    need_euclidean(d)
    s, u, x = hermite(d, a)
    v = y = identity(d, a[1])
    while not is_along_diagonal(d, s):
        s, p, q = hermite(d, transposed(s))
        s, v, y = transposed(s), times(d, v, transposed(p)), times(d, transposed(q), y)
        if not is_along_diagonal(d, s):
            s, p, q = hermite(d, s)
            u, x = times(d, p, u), times(d, x, q)
    for i in range(min(a[0], a[1])):
        for j in range(i + 1, min(a[0], a[1])):
            if not divides(d, s[2][i][i], s[2][j][j]):
                s, u, v, x, y = joined(d, i, j, (s, u, v, x, y))
    return s, u, v, x, y


def is_along_diagonal(d, s):
    """Return whether all entries outside of the diagonal are zero."""
    none = zero(d)
    for i, row in enumerate(s[2]):
        for j, x in enumerate(row):
            if i != j and x != none:
                return False
    return True


def divides(d, x, y):
    """Return whether x divides y."""
    if x == zero(d):
        return y == x
    return divide(d, y, x)[1] == zero(d)


def joined(d, i, j, answer):
    """Return the quintuple with greatest common divisor and least common multiple at i and j."""
    s, u, v, x, y = answer
    p, q = s[2][i][i], s[2][j][j]
    g, e, f = greatest(d, p, q)
    p, q = divide(d, p, g)[0], divide(d, q, g)[0]
    unit, ep, fq = one(d), multiply(d, e, p), multiply(d, f, q)
    # As e p + f q is one now, each of these matrices has an inverse, the one below it.
    left = within(d, len(u[2]), i, j, (e, f, negate(d, q), p))
    left_back = within(d, len(u[2]), i, j, (p, negate(d, f), q, e))
    right = within(d, len(v[2]), i, j, (unit, negate(d, fq), unit, ep))
    right_back = within(d, len(v[2]), i, j, (ep, fq, negate(d, unit), unit))
    s, u, v = times(d, times(d, left, s), right), times(d, left, u), times(d, v, right)
    return s, u, v, times(d, x, left_back), times(d, right_back, y)


def within(d, n, i, j, four):
    """Return the identity with four other entries where the rows and columns i and j meet."""
    rows = [list(row) for row in identity(d, n)[2]]
    rows[i][i], rows[i][j], rows[j][i], rows[j][j] = four
    return n, n, tuple([tuple(row) for row in rows])


def invariants(d, a):
    """Return the tuple of the entries on the diagonal of the Smith form that are not zero."""
    s = smith(d, a)[0]
    entries = [s[2][k][k] for k in range(min(a[0], a[1]))]
    return tuple([x for x in entries if x != zero(d)])


def determinant_of(d, a):
    """Return the determinant of a square matrix over a Euclidean domain."""
    need_euclidean(d)
    need_square(a)
    rows, scales = cleared_rows(d, a[2])
    return restored_entry(d, determinant_of_rows(d, rows), product_of(scales))


def column_form(a):
    """Return (rows, many): the Hermite form of the transposed a with its transformation beside it.

    The first many rows have a pivot in the form itself.
    """
    turned = beside(transposed(a), identity(WHOLE, a[1]))
    table = hermite_table(WHOLE, turned[2], turned[1])
    rows = [row for row in table if row]
    return rows, len([row for row in table[:a[0]] if row])


def integer_kernel(a):
    """Return the matrix whose columns are a basis of the integer vectors v with a v = 0."""
    rows, many = column_form(a)
    kept = tuple([tuple(row[a[0]:]) for row in rows[many:]])
    return transposed((len(kept), a[1], kept))


def steps_to(rows, b):
    """Return (steps, rest, place): integer steps along rows with pivots from b towards zero.

    The place is the number of the first row that would take a fraction of a step, or None.
    """
    rest = list(b)
    steps = []
    for k, row in enumerate(rows):
        at = pivot_of(row)
        step, over = divmod(rest[at], row[at])
        if over:
            return steps, rest, k
        steps.append(step)
        rest = [x - step * y for x, y in zip(rest, row)]
    return steps, rest, None


def pivot_of(row):
    """Return the place of the first entry that is not zero."""
    at = 0
    while row[at] == 0:
        at += 1
    return at


def integer_solve(a, b):
    """Return an integer vector x with a x = b, or None if there is none."""
    need_length(b, a[0])
    rows, many = column_form(a)
    steps, rest, place = steps_to([row[:a[0]] for row in rows[:many]], b)
    if place is not None or any(rest):
        return None
    moves = tuple([tuple(row[a[0]:]) for row in rows[:many]])
    return row_times(WHOLE, tuple(steps), (many, a[1], moves))


def integer_refute(a, b):
    """Return y with y a of integers whose product with b is none, or None if a x = b for some x."""
    need_length(b, a[0])
    rows, many = column_form(a)
    form = [tuple(row[:a[0]]) for row in rows[:many]]
    _, rest, place = steps_to(form, b)
    h = change(WHOLE, RATIONAL, (many, a[0], tuple(form)))
    if place is not None:
        # The product of this vector and b is the fraction of a step.
        return solve(RATIONAL, h, identity(RATIONAL, many)[2][place])
    for k, x in enumerate(rest):
        if x:
            v = solve(RATIONAL, h, tuple([row[k] for row in h[2]]))
            y = [negate(RATIONAL, c) for c in v]
            y[k] = one(RATIONAL)
            return tuple([fraction(c[0], 2 * x * c[1]) for c in y])
    return None


def same_lattice(a, b):
    """Return whether the rows of two integer matrices have the same integer combinations."""
    if a[1] != b[1]:
        raise ShapeError("the matrices have unlike numbers of columns")
    return hermite_table(WHOLE, a[2], a[1]) == hermite_table(WHOLE, b[2], b[1])
