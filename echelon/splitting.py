"""Irreducible factors of lists over a prime field without square factors (point 23)."""

from echelon.coefficients import convolved, divided_residues, lowered, trimmed
from echelon.divisors import exact, shared_residues


def remainder(a, b, p):
    """Return the remainder of a list modulo b and p."""
    return divided_residues([c % p for c in a], b, p)[1]


def powered(a, k, b, p):
    """Return the remainder of the k-th power of a list modulo b and p, for k at least 1."""
    out = a
    for at in range(k.bit_length() - 2, -1, -1):
        out = remainder(convolved(out, out), b, p)
        if (k >> at) & 1:
            out = remainder(convolved(out, a), b, p)
    return out


def less(a, b, p):
    """Return a - b modulo p."""
    return lowered(("F", p), 1, a, [1], b)


def of_degree_one(a, p):
    """Return the product of the factors x - r of a list."""
    x = remainder([0, 1], a, p)
    return shared_residues(a, less(powered(x, p, a, p), x, p), p)


def by_degree(a, p):
    """Return pairs (b, k): b is the product of all irreducible factors of the degree k."""
    f = ("F", p)
    out = []
    k = 0
    image = [0, 1]
    while len(a) - 1 > 2 * k + 1:
        k += 1
        image = powered(remainder(image, a, p), p, a, p)
        # All elements of the field with p ** k elements, and no others, are equal to their
        # power with the exponent p ** k.
        b = shared_residues(a, less(image, [0, 1], p), p)
        if len(b) > 1:
            out.append((b, k))
            a = exact(f, a, b)
    if len(a) > 1:
        out.append((a, len(a) - 1))
    return out


def equal_parts(a, k, p):
    """Return the irreducible factors of a list that has only such of the degree k."""
    parts = [a]
    number = 0
    while len(parts) * k < len(a) - 1:
        number += 1
        word = trial(number, p)
        finer = []
        for part in parts:
            finer.extend(halves(part, k, word, p))
        parts = finer
    return parts


def trial(number, p):
    """Return a list for each number from 1 on; some of these tell any two factors apart.

    Modulo 2 the powers of the variable do, as the sums in trace are linear. Otherwise the
    list has the digits of a number from p on.
    """
    if p == 2:
        return [0] * number + [1]
    digits = []
    rest = number + p - 1
    while rest:
        digits.append(rest % p)
        rest //= p
    return digits


def halves(a, k, word, p):
    """Return [a], or two factors of a that the list word tells apart."""
    if len(a) - 1 == k:
        return [a]
    base = remainder(word, a, p)
    if not base:
        return [a]
    if p == 2:
        marks = trace(base, k, a)
    else:
        marks = less(powered(base, (order_of(p, k) - 1) // 2, a, p), [1], p)
    b = shared_residues(a, marks, p)
    if len(b) == 1 or len(b) == len(a):
        return [a]
    return [b, exact(("F", p), a, b)]


def order_of(p, k):
    """Return the number of elements of the field of the degree k."""
    out = 1
    for _ in range(k):
        out *= p
    return out


def trace(base, k, a):
    """Return the sum of the first k of base, its square, the square of that and so on."""
    total = []
    for _ in range(k):
        total = trimmed(less(total, [-c for c in base], 2))
        base = remainder(convolved(base, base), a, 2)
    return total
