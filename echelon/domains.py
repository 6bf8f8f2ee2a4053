"""Domains and the arithmetic of their elements (points 3 and 15 to 18)."""

from math import gcd

from echelon.coefficients import bezout, cleared, convolved, divided, restored
from echelon.errors import DomainError, SingularError
from echelon.numbers import common, fraction, is_prime

LARGEST_MODULUS = 65521


def is_whole(x):
    """Return whether a value is an integer: True and False are none."""
    return isinstance(x, int) and not isinstance(x, bool)


def is_field(d):
    """Return whether any value is a field."""
    if not isinstance(d, tuple):
        return False
    if len(d) == 2 and d[0] == "F":
        # The size comes first: to find out whether a long number is a prime takes too long.
        return is_whole(d[1]) and d[1] <= LARGEST_MODULUS and is_prime(d[1])
    return d == ("Q",)


def is_euclidean(d):
    """Return whether any value is a Euclidean domain."""
    if not isinstance(d, tuple):
        return False
    if len(d) == 2 and d[0] == "P":
        return is_field(d[1])
    return d == ("Z",)


def is_domain(d):
    """Return whether any value is a domain."""
    return is_euclidean(d) or is_field(d)


def need_domain(d):
    """Raise DomainError if a value is no domain."""
    if not is_domain(d):
        raise DomainError("no domain")


def need_field(f):
    """Raise DomainError if a value is no field."""
    if not is_field(f):
        raise DomainError("no field")


def need_euclidean(d):
    """Raise DomainError if a value is no Euclidean domain."""
    if not is_euclidean(d):
        raise DomainError("no Euclidean domain")


def is_element(d, x):
    """Return whether any value is an element of a domain."""
    need_domain(d)
    if d[0] == "P":
        return is_polynomial(d[1], x)
    return is_number(d, x)


def is_polynomial(f, x):
    """Return whether any value is a polynomial over a field."""
    if not isinstance(x, tuple):
        return False
    for c in x:
        if not is_number(f, c):
            return False
    return len(x) == 0 or x[-1] != zero(f)


def is_number(d, x):
    """Return whether any value is an element of a domain that has no polynomials."""
    if d[0] == "Q":
        return is_fraction(x)
    if not is_whole(x):
        return False
    return d[0] == "Z" or 0 <= x < d[1]


def is_fraction(x):
    """Return whether any value is a fraction in lowest terms."""
    if not isinstance(x, tuple) or len(x) != 2:
        return False
    n, d = x
    return is_whole(n) and is_whole(d) and d >= 1 and gcd(n, d) == 1


def zero(d):
    """Return the zero of a domain."""
    if d[0] == "P":
        return ()
    if d[0] == "Q":
        return 0, 1
    return 0


def one(d):
    """Return the one of a domain."""
    if d[0] == "P":
        return (one(d[1]),)
    if d[0] == "Q":
        return 1, 1
    return 1


def add(d, x, y):
    """Return the sum of two elements."""
    if d[0] == "Z":
        return x + y
    if d[0] == "F":
        return (x + y) % d[1]
    if d[0] == "Q":
        return fraction(x[0] * y[1] + y[0] * x[1], x[1] * y[1])
    return sum_of_polynomials(d[1], x, y)


def sum_of_polynomials(f, x, y):
    """Return the sum of two polynomials over a field."""
    many = min(len(x), len(y))
    low = tuple([add(f, x[k], y[k]) for k in range(many)])
    return polynomial(f, low + x[many:] + y[many:])


def polynomial(f, coefficients):
    """Return the polynomial with these coefficients, the last of which may be zero."""
    many = len(coefficients)
    while many and coefficients[many - 1] == zero(f):
        many -= 1
    return tuple(coefficients[:many])


def subtract(d, x, y):
    """Return the first element less the second one."""
    return add(d, x, negate(d, y))


def negate(d, x):
    """Return zero less an element."""
    if d[0] == "Z":
        return -x
    if d[0] == "F":
        return -x % d[1]
    if d[0] == "Q":
        return -x[0], x[1]
    return tuple([negate(d[1], c) for c in x])


def multiply(d, x, y):
    """Return the product of two elements."""
    if d[0] == "Z":
        return x * y
    if d[0] == "F":
        return x * y % d[1]
    if d[0] == "Q":
        return fraction(x[0] * y[0], x[1] * y[1])
    if len(x) == 1 or len(y) == 1:
        return scaled_by_constant(d[1], x, y)
    a, m = cleared(d[1], x)
    b, n = cleared(d[1], y)
    return restored(d[1], convolved(a, b), m * n)


def scaled_by_constant(f, x, y):
    """Return the product of two polynomials, one of which is a constant other than zero."""
    constant, long = (x, y) if len(x) == 1 else (y, x)
    return tuple([multiply(f, constant[0], c) for c in long])


def from_integer(d, n):
    """Return the element that is n times the one of a domain."""
    if d[0] == "Z":
        return n
    if d[0] == "F":
        return n % d[1]
    if d[0] == "Q":
        return n, 1
    return polynomial(d[1], [from_integer(d[1], n)])


def power(d, x, k):
    """Return the k-th power of an element; k is at least 0."""
    out = one(d)
    for at in range(k.bit_length() - 1, -1, -1):
        out = multiply(d, out, out)
        if (k >> at) & 1:
            out = multiply(d, out, x)
    return out


def inverse(f, x):
    """Return one divided by an element of a field."""
    need_field(f)
    return reciprocal(f, x)


def reciprocal(f, x):
    """Return one divided by an element, without a look at the field."""
    if x == zero(f):
        raise SingularError("zero has no inverse")
    if f[0] == "Q":
        return fraction(x[1], x[0])
    return common(x, f[1])[1] % f[1]


def quotient(f, x, y):
    """Return x divided by y in a field."""
    return multiply(f, x, inverse(f, y))


def divide(d, x, y):
    """Return (q, r) with x = q y + r, where r is smaller than y."""
    need_euclidean(d)
    if y == zero(d):
        raise SingularError("division by zero")
    if d[0] == "Z":
        rest = x % abs(y)
        return (x - rest) // y, rest
    f = d[1]
    a, m = cleared(f, x)
    b, n = cleared(f, y)
    k, q, r = divided(f, a, b)
    return restored(f, [n * c for c in q], k * m), restored(f, r, k * m)


def normal(d, x):
    """Return (y, u): the normal associate y = u x and the unit u."""
    need_euclidean(d)
    if x == zero(d):
        return x, one(d)
    if d[0] == "Z":
        return abs(x), (1 if x > 0 else -1)
    unit = (reciprocal(d[1], x[-1]),)
    return multiply(d, unit, x), unit


def greatest(d, x, y):
    """Return (g, s, t): a normal greatest common divisor g = s x + t y."""
    need_euclidean(d)
    if d[0] == "Z":
        return common(x, y)
    if not x and not y:
        return (), (), ()
    f = d[1]
    a, m = cleared(f, x)
    b, n = cleared(f, y)
    g, s, t = bezout(f, a, b)
    last = g[-1]
    return (
        restored(f, g, last),
        restored(f, [m * c for c in s], last),
        restored(f, [n * c for c in t], last),
    )
