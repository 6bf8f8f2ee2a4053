"""Division without remainder and common divisors, on the inner side of the polynomials.

Common divisors over the fractions are found modulo a large prime first: the numbers in Euclid's
algorithm would grow far beyond those of its answer.
"""

from math import gcd

from echelon.coefficients import divided_integers, divided_residues, trimmed, without_content
from echelon.numbers import common, symmetric

# For each of these e, 2 ** e - 1 is a prime.
EXPONENTS = (61, 127, 521, 1279, 2203, 4423, 9689, 19937, 44497, 86243)


def exact(f, a, b):
    """Return the list q with a = q b, or None if there is none; b is not empty.

    Over the fractions q is looked for among the lists of integers. If b has no content, there
    is one as soon as b divides a.
    """
    if f[0] == "F":
        q, rest = divided_residues(a, b, f[1])
        return None if rest else q
    return exact_integers(a, b)


def exact_integers(a, b):
    """Return the list q of integers with a = q b, or None if there is none."""
    low = b[:-1]
    rest = list(a)
    q = [0] * max(0, len(a) - len(low))
    for at in range(len(q) - 1, -1, -1):
        top, over = divmod(rest.pop(), b[-1])
        if over:
            return None
        q[at] = top
        for k, c in enumerate(low, start=at):
            rest[k] -= top * c
    return None if trimmed(rest) else q


def shared(f, a, b):
    """Return a greatest common divisor of two lists; over the fractions it has no content."""
    if f[0] == "F":
        return shared_residues(a, b, f[1])
    return shared_integers(without_content([a])[0], without_content([b])[0])


def shared_residues(a, b, p):
    """Return a greatest common divisor of two lists modulo p."""
    while b:
        a, b = b, divided_residues(a, b, p)[1]
    return a


def shared_integers(a, b):
    """Return a greatest common divisor without content of two lists without content."""
    if not a or not b:
        return a + b
    for e in EXPONENTS:
        # Its degree is never below that of the answer, so it is one if it divides both.
        found = shared_by_prime(a, b, (1 << e) - 1)
        if found and exact_integers(a, found) is not None and exact_integers(b, found) is not None:
            return found
    while b:
        a, b = b, without_content([divided_integers(a, b)[2]])[0]
    return a


def shared_by_prime(a, b, p):
    """Return what the common divisor is if its coefficients are small enough, or None."""
    top = gcd(a[-1], b[-1])
    if top % p == 0:
        return None
    g = shared_residues(trimmed([c % p for c in a]), trimmed([c % p for c in b]), p)
    unit = top * common(g[-1], p)[1]
    return without_content([[symmetric(c * unit, p) for c in g]])[0]
