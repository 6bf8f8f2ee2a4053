"""The forms of claims over a field, and of those about determinants (points 141 and 142)."""

from echelon.conditions import (
    has_rank, is_echelon_form, is_inverse_pair, is_product, is_sized, is_square, is_table,
    is_vector, makes, solves,
)
from echelon.domains import is_element, is_field, is_whole, multiply, negate, one, zero
from echelon.elimination import sign
from echelon.matrices import change, identity, part, zero_matrix

WHOLE = ("Z",)
RATIONAL = ("Q",)


def is_rank(claim):
    """("rank", f, a, r, p, y, b, c)"""
    _, f, a, r, p, y, b, c = claim
    if not is_field(f) or not is_table(f, a) or not is_whole(r) or not has_rank(f, a, p, y, r):
        return False
    return is_sized(f, b, a[0], r) and is_sized(f, c, r, a[1]) and is_product(f, (b, c), a)


def is_echelon(claim):
    """("echelon", f, a, r, t, s)"""
    _, f, a, r, t, s = claim
    if not is_field(f) or not is_table(f, a) or not is_sized(f, r, a[0], a[1]):
        return False
    return is_echelon_form(f, r) and is_inverse_pair(f, t, s, a[0]) and is_product(f, (t, a), r)


def is_kernel(claim):
    """("kernel", f, a, k, w, p, y)"""
    _, f, a, k, w, p, y = claim
    if not is_field(f) or not is_table(f, a) or not spans_kernel(f, a, k, w):
        return False
    return has_rank(f, a, p, y, a[1] - k[1])


def spans_kernel(d, a, k, w):
    """Return whether a k = 0 and w k = I; a is a matrix."""
    if not is_table(d, k) or k[0] != a[1] or not is_sized(d, w, k[1], k[0]):
        return False
    if not is_product(d, (a, k), zero_matrix(d, a[0], k[1])):
        return False
    return is_product(d, (w, k), identity(d, k[1]))


def is_solution(claim):
    """("solution", f, a, b, x)"""
    _, f, a, b, x = claim
    return is_field(f) and is_table(f, a) and solves(f, a, x, b)


def is_no_solution(claim):
    """("no solution", f, a, b, y)"""
    _, f, a, b, y = claim
    if not is_field(f) or not is_table(f, a) or not is_vector(f, b, a[0]):
        return False
    if not makes(f, a, y, (zero(f),) * a[1]):
        return False
    return makes(f, (a[0], 1, tuple([(x,) for x in b])), y, (one(f),))


def is_inverse(claim):
    """("inverse", f, a, c)"""
    _, f, a, c = claim
    return is_field(f) and is_square(f, a) and is_inverse_pair(f, a, c, a[0])


def is_singular(claim):
    """("singular", f, a, v)"""
    _, f, a, v = claim
    if not is_field(f) or not is_square(f, a):
        return False
    none = (zero(f),) * a[0]
    return v != none and solves(f, a, v, none)


def is_determinant(claim):
    """("determinant", d, a, x, order, l, u)"""
    _, d, a, x, order, l, u = claim
    if not is_field(d) and d != WHOLE:
        return False
    if not is_square(d, a) or not is_element(d, x) or not is_order(order, a[0]):
        return False
    f = RATIONAL if d == WHOLE else d
    if not is_lower(f, l, a[0]) or not is_upper(f, u, a[0]):
        return False
    a = change(d, f, a)
    if not is_product(f, (l, u), part(a, list(order), list(range(a[0])))):
        return False
    total = one(f)
    for k in range(a[0]):
        total = multiply(f, total, u[2][k][k])
    if sign(order) < 0:
        total = negate(f, total)
    return total == ((x, 1) if d == WHOLE else x)


def is_order(order, n):
    """Return whether a value is a tuple with each number from 0 to n - 1 once."""
    if not isinstance(order, tuple) or len(order) != n:
        return False
    for k in order:
        if not is_whole(k):
            return False
    return sorted(order) == list(range(n))


def is_lower(f, l, n):
    """Return whether a value is a lower triangular matrix with n ones on its diagonal."""
    if not is_sized(f, l, n, n):
        return False
    unit = identity(f, n)
    for i, row in enumerate(l[2]):
        if row[i:] != unit[2][i][i:]:
            return False
    return True


def is_upper(f, u, n):
    """Return whether a value is an upper triangular matrix with n rows."""
    if not is_sized(f, u, n, n):
        return False
    for i, row in enumerate(u[2]):
        if row[:i] != (zero(f),) * i:
            return False
    return True


# The number of parts behind the name, and the function that judges the form.
FIELD_FORMS = {
    "rank": (7, is_rank),
    "echelon": (5, is_echelon),
    "kernel": (6, is_kernel),
    "solution": (4, is_solution),
    "no solution": (4, is_no_solution),
    "inverse": (3, is_inverse),
    "singular": (3, is_singular),
    "determinant": (6, is_determinant),
}
