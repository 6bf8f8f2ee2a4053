"""The forms of claims about operators over a field, and about their similarity (points 141, 145)."""

from echelon.conditions import is_chain, is_inverse_pair, is_product, is_square
from echelon.domains import is_element, is_field, is_whole, multiply, one
from echelon.factoring import roots
from echelon.jordan import is_split_by, jordan_block
from echelon.matrices import diagonal
from echelon.operators import companion


def is_similar(claim):
    """("similar", f, a, b, t, s)"""
    _, f, a, b, t, s = claim
    if not is_field(f) or not is_square(f, b):
        return False
    return is_moved(f, a, b, t, s)


def is_moved(f, a, b, t, s):
    """Return whether a is square, t s = I and s a t = b; b is a square matrix."""
    if not is_square(f, a) or a[0] != b[0] or not is_inverse_pair(f, t, s, a[0]):
        return False
    return is_product(f, (s, a, t), b)


def is_not_similar(claim):
    """("not similar", f, a, b, c, g)"""
    _, f, a, b, c, g = claim
    if not is_field(f) or not is_square(f, a) or not is_square(f, b) or a[0] != b[0]:
        return False
    return is_form_of(f, a, c) and is_form_of(f, b, g) and c[3] != g[3]


def is_form_of(f, a, claim):
    """Return whether a value is a claim about the Frobenius form of a over f that is accepted."""
    if not isinstance(claim, tuple) or len(claim) != 6 or claim[0] != "frobenius":
        return False
    return is_frobenius(claim) and claim[1] == f and claim[2] == a


def is_frobenius(claim):
    """("frobenius", f, a, polynomials, t, s)"""
    _, f, a, polynomials, t, s = claim
    if not is_field(f) or not is_square(f, a) or not is_factor_list(f, polynomials, a[0]):
        return False
    form = diagonal(f, [companion(f, g) for g in polynomials])
    return is_moved(f, a, form, t, s) and is_chain(("P", f), polynomials)


def is_factor_list(f, polynomials, n):
    """Return whether a value is a tuple of monic polynomials, whose degrees have the sum n."""
    if not isinstance(polynomials, tuple) or len(polynomials) > n:
        return False
    for g in polynomials:
        if not is_element(("P", f), g) or len(g) < 2 or g[-1] != one(f):
            return False
    return sum([len(g) - 1 for g in polynomials]) == n


def is_characteristic(claim):
    """("characteristic", f, a, g, polynomials, t, s)"""
    _, f, a, g, polynomials, t, s = claim
    if not is_frobenius(("frobenius", f, a, polynomials, t, s)) or not is_element(("P", f), g):
        return False
    total = one(("P", f))
    for h in polynomials:
        total = multiply(("P", f), total, h)
    return total == g


def is_minimal(claim):
    """("minimal", f, a, g, polynomials, t, s)"""
    _, f, a, g, polynomials, t, s = claim
    if not is_frobenius(("frobenius", f, a, polynomials, t, s)) or not is_element(("P", f), g):
        return False
    return g == (polynomials[-1] if polynomials else one(("P", f)))


def is_jordan(claim):
    """("jordan", f, a, blocks, t, s)"""
    _, f, a, blocks, t, s = claim
    if not is_field(f) or not is_square(f, a) or not is_block_list(f, blocks, a[0]):
        return False
    return is_moved(f, a, diagonal(f, [jordan_block(f, x, k) for x, k in blocks]), t, s)


def is_block_list(f, blocks, n):
    """Return whether a value is a tuple of Jordan blocks in order, with n rows in all."""
    if not isinstance(blocks, tuple) or len(blocks) > n:
        return False
    for block in blocks:
        if not isinstance(block, tuple) or len(block) != 2:
            return False
        if not is_element(f, block[0]) or not is_whole(block[1]) or block[1] < 1:
            return False
    for at in range(len(blocks) - 1):
        if not are_in_order(f, blocks[at], blocks[at + 1]):
            return False
    return sum([k for _, k in blocks]) == n


def are_in_order(f, block, other):
    """Return whether two blocks stand in the order of point 109."""
    x, k = block
    y, i = other
    if x == y:
        return k >= i
    if f[0] == "Q":
        return x[0] * y[1] < y[0] * x[1]
    return x < y


def is_no_jordan(claim):
    """("no jordan", f, a, polynomials, t, s)"""
    _, f, a, polynomials, t, s = claim
    if not is_frobenius(("frobenius", f, a, polynomials, t, s)) or not polynomials:
        return False
    last = polynomials[-1]
    return not is_split_by(last, roots(f, last))


# The number of parts behind the name, and the function that judges the form.
OPERATOR_FORMS = {
    "similar": (5, is_similar),
    "not similar": (5, is_not_similar),
    "frobenius": (5, is_frobenius),
    "characteristic": (6, is_characteristic),
    "minimal": (6, is_minimal),
    "jordan": (5, is_jordan),
    "no jordan": (5, is_no_jordan),
}
