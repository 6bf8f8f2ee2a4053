"""Irreducible factors and roots (points 23 and 24)."""

from echelon.coefficients import cleared, restored
from echelon.domains import is_field, need_field
from echelon.errors import DomainError
from echelon.numbers import common
from echelon.polynomials import without_squares
from echelon.rational import rational_roots
from echelon.splitting import by_degree, equal_parts, of_degree_one


def need_prime_field(f):
    """Raise DomainError if a value is no prime field."""
    if not is_field(f) or f[0] != "F":
        raise DomainError("no prime field")


def factor(f, a):
    """Return the pairs (b, k) of the monic irreducible factors and their multiplicities."""
    need_prime_field(f)
    p = f[1]
    out = []
    for part, k in without_squares(f, list(a)):
        for product_of_equals, many in by_degree(part, p):
            for b in equal_parts(product_of_equals, many, p):
                out.append((restored(f, b, b[-1]), k))
    return sorted(out, key=lambda pair: place(pair[0]))


def place(b):
    """Return what polynomials are ordered by."""
    return len(b), b[::-1]


def is_irreducible(f, a):
    """Return whether a has a degree of at least 1 and is no product of two such."""
    need_prime_field(f)
    if len(a) < 2:
        return False
    parts = without_squares(f, list(a))
    if len(parts) > 1 or parts[0][1] > 1:
        return False
    return by_degree(parts[0][0], f[1])[0][1] == len(a) - 1


def roots(f, a):
    """Return the pairs (x, k) of the roots in the field, ascending, and their multiplicities."""
    need_field(f)
    out = []
    for part, k in without_squares(f, cleared(f, a)[0]):
        for x in simple_roots(f, part):
            out.append((x, k))
    if f[0] == "F":
        return sorted(out)
    return ascending(out)


def simple_roots(f, a):
    """Return the roots of a list without square factors, in any order."""
    if f[0] == "Q":
        return rational_roots(a)
    p = f[1]
    return [-b[0] * common(b[1], p)[1] % p for b in linear_parts(a, p)]


def linear_parts(a, p):
    """Return the factors of the degree 1 of a list without square factors."""
    found = of_degree_one(a, p)
    return equal_parts(found, 1, p) if len(found) > 1 else []


def ascending(pairs):
    """Return pairs (x, k) with fractions x in ascending order of these."""
    scale = 1
    for x, _ in pairs:
        scale *= x[1]
    return sorted(pairs, key=lambda pair: pair[0][0] * (scale // pair[0][1]))
