"""The conditions that claims are made of, the inner side of echelon.judge (point 140).

All of these functions take any values where a claim may have any values.
"""

from echelon.domains import divide, is_element, is_whole, one, zero
from echelon.images import may_be_product, may_divide
from echelon.matrices import applied, identity, is_matrix, row_times, times

MOST_LINES = 40


def is_table(d, a):
    """Return whether a value is a matrix over the domain with at most 40 rows and columns."""
    if not isinstance(a, tuple) or len(a) != 3:
        return False
    m, n, _ = a
    if not is_whole(m) or not is_whole(n) or m > MOST_LINES or n > MOST_LINES:
        return False
    return is_matrix(d, a)


def is_sized(d, a, m, n):
    """Return whether a value is a matrix of this size."""
    return is_table(d, a) and a[0] == m and a[1] == n


def is_square(d, a):
    """Return whether a value is a square matrix."""
    return is_table(d, a) and a[0] == a[1]


def is_vector(d, v, n):
    """Return whether a value is a vector with n elements of the domain."""
    if not isinstance(v, tuple) or len(v) != n:
        return False
    for x in v:
        if not is_element(d, x):
            return False
    return True


def is_product(d, matrices, result):
    """Return whether the product of a tuple of matrices that fit is the result."""
    if not may_be_product(d, matrices, result):
        return False
    total = matrices[0]
    for a in matrices[1:]:
        total = times(d, total, a)
    return total == result


def is_inverse_pair(d, t, s, n):
    """Return whether two values are matrices with n rows, each the inverse of the other one."""
    if not is_sized(d, t, n, n) or not is_sized(d, s, n, n):
        return False
    return is_product(d, (t, s), identity(d, n))


def has_rank(d, a, p, y, r):
    """Return whether p a y is the identity with r rows; a is a matrix, and r an integer."""
    if r < 0 or not is_sized(d, p, r, a[0]) or not is_sized(d, y, a[1], r):
        return False
    return is_product(d, (p, a, y), identity(d, r))


def solves(d, a, x, b):
    """Return whether a x = b; a is a matrix."""
    return is_vector(d, b, a[0]) and is_vector(d, x, a[1]) and applied(d, a, x) == b


def makes(d, a, c, w):
    """Return whether c a = w; a is a matrix."""
    return is_vector(d, w, a[1]) and is_vector(d, c, a[0]) and row_times(d, c, a) == w


def pivots_of(d, a):
    """Return the list of the columns of the first entries that are not zero, None for zero rows."""
    none = zero(d)
    out = []
    for row in a[2]:
        places = [j for j, x in enumerate(row) if x != none]
        out.append(places[0] if places else None)
    return out


def is_staircase(pivots):
    """Return whether zero rows are the last ones and pivots stand further right below one another."""
    last = -1
    for at in pivots:
        if last is None and at is not None:
            return False
        if at is not None and at <= last:
            return False
        last = at
    return True


def is_echelon_form(f, r):
    """Return whether a matrix is in reduced echelon form."""
    pivots = pivots_of(f, r)
    if not is_staircase(pivots):
        return False
    for k, at in enumerate(pivots):
        if at is not None:
            for i, row in enumerate(r[2]):
                if row[at] != (one(f) if i == k else zero(f)):
                    return False
    return True


def is_normal(e, x):
    """Return whether an element of a Euclidean domain is its own normal associate."""
    if e[0] == "Z":
        return x >= 0
    return len(x) == 0 or x[-1] == one(e[1])


def is_rest(e, x, y):
    """Return whether x is its own remainder modulo y; y is normal and not zero."""
    if e[0] == "Z":
        return 0 <= x < y
    return len(x) < len(y)


def is_hermite_form(e, h):
    """Return whether a matrix is in Hermite form."""
    pivots = pivots_of(e, h)
    if not is_staircase(pivots):
        return False
    for k, at in enumerate(pivots):
        if at is not None:
            if not is_normal(e, h[2][k][at]):
                return False
            for row in h[2][:k]:
                if not is_rest(e, row[at], h[2][k][at]):
                    return False
    return True


def is_multiple(e, x, y):
    """Return whether x divides y; zero divides zero alone."""
    none = zero(e)
    if y == none:
        return True
    return x != none and may_divide(e, x, y) and divide(e, y, x)[1] == none


def is_smith_form(e, s):
    """Return whether a matrix is in Smith form."""
    none = zero(e)
    for i, row in enumerate(s[2]):
        for j, x in enumerate(row):
            if (i != j and x != none) or not is_normal(e, x):
                return False
    line = [s[2][k][k] for k in range(min(s[0], s[1]))]
    return is_chain(e, line)


def is_chain(e, line):
    """Return whether each element of a list or tuple divides the next one."""
    for k in range(len(line) - 1):
        if not is_multiple(e, line[k], line[k + 1]):
            return False
    return True
