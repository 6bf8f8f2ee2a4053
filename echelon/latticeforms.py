"""The forms of claims over the integers (point 144)."""

from echelon.conditions import (
    has_rank, is_inverse_pair, is_product, is_sized, is_table, is_vector, makes, solves,
)
from echelon.domains import is_whole
from echelon.fieldforms import spans_kernel
from echelon.matrices import applied, change, row_times
from echelon.reduction import are_reduced, product_of_rows
from echelon.shortest import MOST_ROWS, short_combinations

WHOLE = ("Z",)
RATIONAL = ("Q",)


def is_integer_solution(claim):
    """("integer solution", a, b, x)"""
    _, a, b, x = claim
    return is_table(WHOLE, a) and solves(WHOLE, a, x, b)


def is_no_integer_solution(claim):
    """("no integer solution", a, b, y)"""
    _, a, b, y = claim
    if not is_table(WHOLE, a) or not is_vector(WHOLE, b, a[0]) or not is_vector(RATIONAL, y, a[0]):
        return False
    return are_whole(row_times(RATIONAL, y, change(WHOLE, RATIONAL, a))) and is_parted(b, y)


def are_whole(v):
    """Return whether all elements of a vector of fractions are integers."""
    for x in v:
        if x[1] != 1:
            return False
    return True


def is_parted(w, y):
    """Return whether the product of a vector of integers and one of fractions is no integer."""
    row = change(WHOLE, RATIONAL, (1, len(w), (w,)))
    return not are_whole(applied(RATIONAL, row, y))


def is_integer_kernel(claim):
    """("integer kernel", a, k, w, p, y)"""
    _, a, k, w, p, y = claim
    if not is_table(WHOLE, a) or not spans_kernel(WHOLE, a, k, w):
        return False
    return has_rank(RATIONAL, change(WHOLE, RATIONAL, a), p, y, a[1] - k[1])


def is_member(claim):
    """("member", a, w, c)"""
    _, a, w, c = claim
    return is_table(WHOLE, a) and makes(WHOLE, a, c, w)


def is_not_member(claim):
    """("not member", a, w, y)"""
    _, a, w, y = claim
    return is_table(WHOLE, a) and is_outside(a, w, y)


def is_outside(a, w, y):
    """Return whether y shows that w is no combination of the rows of a; a is a matrix."""
    if not is_vector(WHOLE, w, a[1]) or not is_vector(RATIONAL, y, a[1]):
        return False
    return are_whole(applied(RATIONAL, change(WHOLE, RATIONAL, a), y)) and is_parted(w, y)


def is_same_lattice(claim):
    """("same lattice", a, b, u, v)"""
    _, a, b, u, v = claim
    if not is_table(WHOLE, a) or not is_table(WHOLE, b) or a[1] != b[1]:
        return False
    if not is_sized(WHOLE, u, b[0], a[0]) or not is_sized(WHOLE, v, a[0], b[0]):
        return False
    return is_product(WHOLE, (u, a), b) and is_product(WHOLE, (v, b), a)


def is_other_lattice(claim):
    """("other lattice", a, b, side, i, y)"""
    _, a, b, side, i, y = claim
    if not is_table(WHOLE, a) or not is_table(WHOLE, b) or a[1] != b[1]:
        return False
    if not is_whole(side) or not is_whole(i) or side < 0 or side > 1:
        return False
    rows, other = (a, b) if side == 0 else (b, a)
    return 0 <= i < rows[0] and is_outside(other, rows[2][i], y)


def is_reduced_claim(claim):
    """("reduced", a, r, u, v)"""
    _, a, r, u, v = claim
    return is_reduction(a, r, u, v)


def is_reduction(a, r, u, v):
    """Return whether r = u a is a reduced basis and v the inverse of u."""
    if not is_table(WHOLE, a) or not is_sized(WHOLE, r, a[0], a[1]):
        return False
    if not is_inverse_pair(WHOLE, u, v, a[0]) or not is_product(WHOLE, (u, a), r):
        return False
    return are_reduced(r[2])


def is_shortest(claim):
    """("shortest", a, w, r, u, v, c)"""
    _, a, w, r, u, v, c = claim
    if not is_reduction(a, r, u, v) or a[0] < 1 or a[0] > MOST_ROWS:
        return False
    if not makes(WHOLE, r, c, w) or not any(w):
        return False
    return product_of_rows(w, w) == short_combinations(r[2])[1]


# The number of parts behind the name, and the function that judges the form.
LATTICE_FORMS = {
    "integer solution": (3, is_integer_solution),
    "no integer solution": (3, is_no_integer_solution),
    "integer kernel": (5, is_integer_kernel),
    "member": (3, is_member),
    "not member": (3, is_not_member),
    "same lattice": (4, is_same_lattice),
    "other lattice": (5, is_other_lattice),
    "reduced": (4, is_reduced_claim),
    "shortest": (6, is_shortest),
}
