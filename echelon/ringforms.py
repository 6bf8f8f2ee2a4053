"""The forms of claims over a Euclidean domain, and of those about factors (point 143)."""

from echelon.conditions import (
    is_hermite_form, is_inverse_pair, is_normal, is_product, is_sized, is_smith_form, is_table,
)
from echelon.domains import add, is_element, is_euclidean, is_field, is_whole, multiply, one, power
from echelon.factoring import is_irreducible, place
from echelon.images import may_be_product

HIGHEST_DEGREE = 60


def is_greatest(claim):
    """("greatest", e, x, y, g, s, t, q, r)"""
    e = claim[1]
    if not is_euclidean(e):
        return False
    for x in claim[2:]:
        if not is_element(e, x):
            return False
    _, _, x, y, g, s, t, q, r = claim
    if not is_normal(e, g) or not is_multiple_of(e, x, q, g) or not is_multiple_of(e, y, r, g):
        return False
    line, column = (1, 2, ((s, t),)), (2, 1, ((x,), (y,)))
    if not may_be_product(e, (line, column), (1, 1, ((g,),))):
        return False
    return add(e, multiply(e, s, x), multiply(e, t, y)) == g


def is_multiple_of(e, x, q, g):
    """Return whether x = q g."""
    if not may_be_product(e, ((1, 1, ((q,),)), (1, 1, ((g,),))), (1, 1, ((x,),))):
        return False
    return multiply(e, q, g) == x


def is_hermite(claim):
    """("hermite", e, a, h, u, v)"""
    _, e, a, h, u, v = claim
    if not is_euclidean(e) or not is_table(e, a) or not is_sized(e, h, a[0], a[1]):
        return False
    return is_hermite_form(e, h) and is_inverse_pair(e, u, v, a[0]) and is_product(e, (u, a), h)


def is_smith(claim):
    """("smith", e, a, s, u, v, x, y)"""
    _, e, a, s, u, v, x, y = claim
    if not is_euclidean(e) or not is_table(e, a) or not is_sized(e, s, a[0], a[1]):
        return False
    if not is_inverse_pair(e, u, x, a[0]) or not is_inverse_pair(e, v, y, a[1]):
        return False
    return is_product(e, (u, a, v), s) and is_smith_form(e, s)


def is_factors(claim):
    """("factors", f, g, pairs)"""
    _, f, g, pairs = claim
    if not is_field(f) or f[0] != "F" or not is_element(("P", f), g) or not isinstance(pairs, tuple):
        return False
    if not g or len(g) > HIGHEST_DEGREE + 1:
        return False
    for pair in pairs:
        if not is_factor_pair(f, pair):
            return False
    # Degrees come first: few and short polynomials are left to be looked at.
    if sum([k * (len(b) - 1) for b, k in pairs]) != len(g) - 1 or not are_ascending(pairs):
        return False
    for b, _ in pairs:
        if not is_irreducible(f, b):
            return False
    return is_factored(f, g, pairs)


def is_factor_pair(f, pair):
    """Return whether a value is a monic polynomial that is no constant and a number of at least 1."""
    if not isinstance(pair, tuple) or len(pair) != 2:
        return False
    b, k = pair
    if not is_element(("P", f), b) or not is_whole(k):
        return False
    return len(b) > 1 and b[-1] == one(f) and k >= 1


def are_ascending(pairs):
    """Return whether factors stand in the order of point 23, each once."""
    places = [place(b) for b, _ in pairs]
    for k in range(len(places) - 1):
        if places[k] >= places[k + 1]:
            return False
    return True


def is_factored(f, g, pairs):
    """Return whether a polynomial is its last coefficient times these powers."""
    d = ("P", f)
    total = (g[-1],)
    for b, k in pairs:
        total = multiply(d, total, power(d, b, k))
    return total == g


# The number of parts behind the name, and the function that judges the form.
RING_FORMS = {
    "greatest": (8, is_greatest),
    "hermite": (5, is_hermite),
    "smith": (7, is_smith),
    "factors": (3, is_factors),
}
