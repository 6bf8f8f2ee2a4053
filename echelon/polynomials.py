"""Polynomials over a field (points 20 to 22)."""

from echelon.coefficients import cleared, convolved, restored, trimmed
from echelon.divisors import exact, shared
from echelon.domains import divide, multiply, need_field, one, polynomial
from echelon.numbers import fraction


def degree(a):
    """Return the degree of a polynomial; that of zero is -1."""
    return len(a) - 1


def make(f, coefficients):
    """Return the polynomial with these coefficients, from the constant one on."""
    need_field(f)
    return polynomial(f, coefficients)


def evaluate(f, a, x):
    """Return the value of a polynomial at an element of the field."""
    need_field(f)
    total = 0
    if f[0] == "F":
        for c in reversed(a):
            total = (total * x + c) % f[1]
        return total
    numbers, m = cleared(f, a)
    n, d = x
    scale = 1
    for c in reversed(numbers):
        total = total * n + c * scale
        scale *= d
    return fraction(total * d, m * scale)


def derivative(f, a):
    """Return the derivative of a polynomial."""
    need_field(f)
    numbers, m = cleared(f, a)
    return restored(f, slope(f, numbers), m)


def slope(f, a):
    """Return the derivative of a list."""
    out = [k * c for k, c in enumerate(a)][1:]
    if f[0] == "F":
        out = [c % f[1] for c in out]
    return trimmed(out)


def compose(f, a, b):
    """Return the polynomial a with b in the place of the variable."""
    need_field(f)
    outer, m = cleared(f, a)
    inner, n = cleared(f, b)
    total = []
    scale = 1
    for c in reversed(outer):
        total = convolved(total, inner) or [0]
        total[0] += c * scale
        if f[0] == "F":
            total = [x % f[1] for x in total]
        scale *= n
    return restored(f, [c * n for c in total], m * scale)


def power_modulo(f, a, k, b):
    """Return the remainder of the k-th power of a modulo b."""
    need_field(f)
    d = ("P", f)
    base = divide(d, a, b)[1]
    out = divide(d, one(d), b)[1]
    for at in range(k.bit_length() - 1, -1, -1):
        out = divide(d, multiply(d, out, out), b)[1]
        if (k >> at) & 1:
            out = divide(d, multiply(d, out, base), b)[1]
    return out


def square_free(f, a):
    """Return the pairs (b, k) of the factors without squares b and their multiplicities k."""
    need_field(f)
    found = without_squares(f, cleared(f, a)[0])
    return sorted([(restored(f, b, b[-1]), k) for b, k in found], key=lambda pair: pair[1])


def without_squares(f, a):
    """Return the pairs (b, k) of a list that is not empty."""
    out = []
    times = 1
    while len(a) > 1:
        # many keeps each factor once less than a, and those that the characteristic
        # divides out of the derivative as often as a.
        many = shared(f, a, slope(f, a))
        once = exact(f, a, many)
        k = times
        while len(once) > 1:
            more = shared(f, once, many)
            b = exact(f, once, more)
            if len(b) > 1:
                out.append((b, k))
            once, many = more, exact(f, many, more)
            k += times
        a = many
        if len(a) > 1:
            # What is left is a p-th power, and over ("F", p) each coefficient is its own.
            a = a[::f[1]]
            times *= f[1]
    return out
