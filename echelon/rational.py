"""Roots among the fractions of lists of integers without square factors (point 24)."""

from echelon.coefficients import trimmed
from echelon.divisors import shared_residues
from echelon.numbers import common, fraction, next_prime, symmetric
from echelon.polynomials import slope


def rational_roots(a):
    """Return the roots of a list without square factors, as fractions, in any order."""
    if a[0] == 0:
        return [(0, 1)] + rational_roots(a[1:])
    if len(a) == 1:
        return []
    p = good_prime(a)
    out = []
    for x in range(p):
        if value(a, x, p) == 0:
            root = lifted_root(a, x, p)
            if is_root(a, root):
                out.append(root)
    return out


def good_prime(a):
    """Return the least prime modulo which the list keeps its length and has no equal roots."""
    p = 2
    while a[-1] % p == 0 or has_square(a, p):
        p = next_prime(p)
    return p


def has_square(a, p):
    """Return whether a list has a square factor modulo p; p does not divide its last one."""
    change = trimmed([c % p for c in slope(("Q",), a)])
    return len(shared_residues([c % p for c in a], change, p)) > 1


def value(a, x, m):
    """Return the value of a list at an integer, modulo m."""
    total = 0
    for c in reversed(a):
        total = (total * x + c) % m
    return total


def lifted_root(a, x, p):
    """Return the only fraction with the remainder x modulo p that may be a root."""
    top = a[-1]
    change = slope(("Q",), a)
    # The last coefficient times a root is an integer, and not above half of this bound.
    bound = 2 * (abs(top) + max([abs(c) for c in a]))
    m = p
    while m <= bound:
        m *= m
        x = (x - value(a, x, m) * common(value(change, x, m), m)[1]) % m
    return fraction(symmetric(top * x, m), top)


def is_root(a, x):
    """Return whether a fraction is a root of a list."""
    n, d = x
    total = 0
    scale = 1
    for c in reversed(a):
        total = total * n + c * scale
        scale *= d
    return total == 0
