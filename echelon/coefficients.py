"""Polynomials over a field as lists of integers, the inner side of echelon.domains.

A list holds the coefficients from the constant one on. Over ("F", p) these are the elements
themselves. Over ("Q",) they are the elements times one denominator for all of them: integers
are multiplied without looking for common divisors, which are taken out once at the end.
"""

from math import gcd, lcm

from echelon.numbers import common, fraction

# Longer lists are multiplied at once.
SHORT = 40


def trimmed(a):
    """Return a list without the zeros at its end."""
    many = len(a)
    while many and a[many - 1] == 0:
        many -= 1
    return a[:many]


def cleared(f, x):
    """Return (a, m): the list a and the denominator m of a polynomial x = a / m."""
    if f[0] == "F":
        return list(x), 1
    m = 1
    for c in x:
        m = lcm(m, c[1])
    return [c[0] * (m // c[1]) for c in x], m


def restored(f, a, m):
    """Return the polynomial a / m over the field."""
    if f[0] == "F":
        p = f[1]
        unit = common(m, p)[1]
        return tuple(trimmed([c * unit % p for c in a]))
    return tuple([fraction(c, m) for c in trimmed(a)])


def convolved(a, b):
    """Return the product of two lists."""
    if not a or not b:
        return []
    if min(len(a), len(b)) > SHORT:
        return convolved_at_once(a, b)
    out = [0] * (len(a) + len(b) - 1)
    for i, x in enumerate(a):
        for k, y in enumerate(b, start=i):
            out[k] += x * y
    return out


def convolved_at_once(a, b):
    """Return the product of two long lists, by a product of two long integers.

    These are the values of the lists at a power of 16, which is so large that their product
    shows the numbers of the product side by side.
    """
    many = len(a) + len(b) - 1
    most = max([abs(c) for c in a]) * max([abs(c) for c in b]) * min(len(a), len(b))
    width = len(f"{most:x}") + 1
    half = "8" + "0" * (width - 1)
    # With half of the power added everywhere no number is negative.
    total = value_at_power(a, width) * value_at_power(b, width) + int(half * many, 16)
    text = f"{total:x}".zfill(width * many)
    middle = int(half, 16)
    ends = [width * k for k in range(many, 0, -1)]
    return [int(text[end - width:end], 16) - middle for end in ends]


def value_at_power(a, width):
    """Return the value of a list at the power of 16 with this exponent."""
    above = "".join([f"{max(c, 0):x}".zfill(width) for c in reversed(a)])
    under = "".join([f"{max(-c, 0):x}".zfill(width) for c in reversed(a)])
    return int(above, 16) - int(under, 16)


def divided(f, a, b):
    """Return (k, q, r) with k a = q b + r, where k is no zero and r is shorter than b."""
    if f[0] == "F":
        q, r = divided_residues(a, b, f[1])
        return 1, q, r
    return divided_integers(a, b)


def divided_residues(a, b, p):
    """Return (q, r) with a = q b + r modulo p, where r is shorter than b."""
    unit = common(b[-1], p)[1]
    low = b[:-1]
    rest = list(a)
    many = max(0, len(a) - len(low))
    q = [0] * many
    for at in range(many - 1, -1, -1):
        times = rest.pop() * unit % p
        if times:
            q[at] = times
            for k, c in enumerate(low, start=at):
                rest[k] = (rest[k] - times * c) % p
    return q, trimmed(rest)


def divided_integers(a, b):
    """Return (k, q, r) with k a = q b + r, where k is above zero and r is shorter than b."""
    low = b[:-1]
    rest = list(a)
    many = max(0, len(a) - len(low))
    q = [0] * many
    factor = 1
    for at in range(many - 1, -1, -1):
        top, scale = fraction(rest.pop(), b[-1])
        if scale > 1:
            factor *= scale
            rest = [scale * c for c in rest]
            q = [scale * c for c in q]
        q[at] = top
        for k, c in enumerate(low, start=at):
            rest[k] -= top * c
    return factor, q, trimmed(rest)


def lowered(f, k, a, q, b):
    """Return k a - q b."""
    less = convolved(q, b)
    many = max(len(a), len(less))
    out = [k * c for c in a] + [0] * (many - len(a))
    for at, c in enumerate(less):
        out[at] -= c
    if f[0] == "F":
        out = [c % f[1] for c in out]
    return trimmed(out)


def without_content(lists):
    """Return the lists divided by the greatest common divisor of all their integers."""
    content = 0
    for a in lists:
        for c in a:
            content = gcd(content, c)
    if content < 2:
        return lists
    return [[c // content for c in a] for a in lists]


def bezout(f, a, b):
    """Return lists [g, s, t] with s a + t b = g, where g divides a and b over the field."""
    return euclid(f, a, b)[0]


def euclid(f, a, b):
    """Return two lists [g, s, t] and [[], q, r] with s a + t b = g and q a + r b = 0.

    Here g divides a and b over the field, and s r - t q is a number other than zero.
    Each list of three in the algorithm of Euclid stands for such an equation. It may be
    divided by an integer, and over the fractions it is: the integers would grow too fast.
    """
    old, new = [list(a), [1], []], [list(b), [], [1]]
    while new[0]:
        k, q, _ = divided(f, old[0], new[0])
        last = [lowered(f, k, x, q, y) for x, y in zip(old, new)]
        if f[0] == "Q":
            last = without_content(last)
        old, new = new, last
    return old, new
