"""Values for the tests: always the same ones, from a simple sequence of numbers."""

from itertools import permutations
from math import gcd

from echelon.domains import add, multiply, negate, one, zero

FIELDS = (("Q",), ("F", 2), ("F", 3), ("F", 97), ("F", 65521))
POLYNOMIALS = tuple(("P", f) for f in FIELDS)
EUCLIDEAN = (("Z",),) + POLYNOMIALS
DOMAINS = EUCLIDEAN + FIELDS

# Values that are no domain at all.
NO_DOMAINS = (
    None, True, False, 0, 1, -5, "", "Z", "Q", "F", (), [], ["Z"], ["Q"], ["F", 7], ["P", ("Q",)],
    ("z",), ("R",), ("",), ("Z", ()), ("Z", "Z"), ("Q", 1), ("Q", ("Q",)), (("Z",),), (("Q",),),
    (None,), (True,), (0,), (("F", 7),), ("ZZ",), ("Q", "Q"), ("Z", 7), ("Q", 7), ("N", 7),
    ("F",), ("F", 0), ("F", 1), ("F", -7), ("F", 4), ("F", 9), ("F", 561), ("F", 1729),
    ("F", 65520), ("F", 65536), ("F", 65537), ("F", 2 ** 31 - 1), ("F", 10 ** 40 + 121),
    ("F", 251 * 257), ("F", 255 * 255), ("F", 241 * 271),
    ("F", True), ("F", False), ("F", None), ("F", "7"), ("F", (7,)), ("F", 7, 7), ("F", ("F", 7)),
    ("f", 7), (7, "F"), ("F", [7]),
    ("P",), ("P", "Q"), ("P", "F", 7), ("P", None), ("P", 7), ("P", ("Z",)), ("P", ["Q"]),
    ("P", ("F", 6)), ("P", ("F", 65537)), ("P", ("F", True)), ("P", ("P", ("Q",))),
    ("P", ("P", ("F", 7))), ("P", ("Q",), 1), ("P", ("Q",), ("Q",)), ("P", ()), ("p", ("Q",)),
)


def by_permutations(d, a):
    """The determinant of a matrix as the sum over all permutations."""
    total = zero(d)
    for order in permutations(range(a[0])):
        term = one(d)
        for i, j in enumerate(order):
            term = multiply(d, term, a[2][i][j])
        if sum(order[i] > order[j] for i in range(len(order)) for j in range(i, len(order))) % 2:
            term = negate(d, term)
        total = add(d, total, term)
    return total


class Sample:
    """A sequence of numbers that look as if they were taken by chance."""

    def __init__(self, start):
        self.state = start

    def below(self, limit):
        """A number from 0 to limit - 1."""
        out = 0
        span = 1
        while span < limit * 2 ** 20:
            self.state = (self.state * 6364136223846793005 + 1442695040888963407) % 2 ** 64
            out = out * 2 ** 32 + self.state // 2 ** 32
            span *= 2 ** 32
        return out % limit

    def between(self, low, high):
        return low + self.below(high - low + 1)

    def signed(self, digits):
        """An integer of at most so many digits, with either sign."""
        return self.between(1 - 10 ** digits, 10 ** digits - 1)

    def fraction(self, digits):
        n = self.signed(digits)
        d = self.between(1, 10 ** digits - 1)
        g = gcd(n, d)
        return n // g, d // g

    def number(self, d, digits):
        """An element of a domain that has no polynomials."""
        if d == ("Z",):
            return self.signed(digits)
        if d == ("Q",):
            return self.fraction(digits)
        return self.below(d[1])

    def polynomial(self, f, degree, digits):
        """A polynomial of exactly this degree; -1 is that of zero."""
        out = [self.number(f, digits) for _ in range(degree + 1)]
        while out and out[-1] in (0, (0, 1)):
            out[-1] = self.number(f, digits)
        return tuple(out)

    def one_of(self, d, degree=4, digits=2):
        """An element of any domain, of at most this degree; zero now and then."""
        if self.below(10) == 0:
            return {"Z": 0, "Q": (0, 1), "F": 0, "P": ()}[d[0]]
        if d[0] == "P":
            return self.polynomial(d[1], self.between(-1, degree), digits)
        return self.number(d, digits)

    def vector(self, d, n, degree=4, digits=2):
        return tuple(self.one_of(d, degree, digits) for _ in range(n))

    def matrix(self, d, m, n, degree=4, digits=2):
        """A matrix over any domain, with a zero now and then."""
        return m, n, tuple(self.vector(d, n, degree, digits) for _ in range(m))

    def sizes(self, many, largest):
        """So many pairs of numbers of rows and columns, at first all that are near to zero."""
        out = [(m, n) for m in range(3) for n in range(3)]
        while len(out) < many:
            out.append((self.between(1, largest), self.between(1, largest)))
        return out

    def mixing(self, d, n, steps=12):
        """A matrix with an inverse: that of some steps, in each of which a row is added to another."""
        rows = [[one(d) if i == j else zero(d) for j in range(n)] for i in range(n)]
        for _ in range(steps if n > 1 else 0):
            i, k, x = self.below(n), self.below(n - 1), self.one_of(d, 1, 1)
            k += k >= i
            rows[i] = [add(d, y, multiply(d, x, z)) for y, z in zip(rows[i], rows[k])]
        if n and self.below(2):
            rows[0] = [negate(d, x) for x in rows[0]]
        return n, n, tuple(tuple(row) for row in rows)
