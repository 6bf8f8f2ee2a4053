"""Claims for the tests: right ones, and such that are not in the form of claims."""

import unittest

from echelon.domains import from_integer
from echelon.judge import judge

Z = ("Z",)
Q = ("Q",)
F2 = ("F", 2)
F7 = ("F", 7)
LARGE = ("F", 65521)
PQ = ("P", Q)
P2 = ("P", F2)
P7 = ("P", F7)


def table(d, *rows):
    """The matrix over a domain with the elements of these integers, of at least one row."""
    return len(rows), len(rows[0]), tuple(vector(d, *row) for row in rows)


def vector(d, *numbers):
    """The vector, or over a field also the polynomial, with the elements of these integers."""
    return tuple(from_integer(d, x) for x in numbers)


def poly(f, *numbers):
    return vector(f, *numbers)


def spots(value, path=()):
    """The places of all parts within a nested tuple, each with the part there."""
    yield path, value
    if isinstance(value, tuple):
        for k, part in enumerate(value):
            yield from spots(part, path + (k,))


def replaced(value, path, part):
    """The nested tuple with another part at a place."""
    if not path:
        return part
    k = path[0]
    return value[:k] + (replaced(value[k], path[1:], part),) + value[k + 1:]


def spoiled(claim):
    """Claims that are like one but for one part, which is of a kind that no claim has there."""
    for path, part in spots(claim):
        if isinstance(part, tuple):
            yield replaced(claim, path, list(part))
            yield replaced(claim, path, None)
            if path:
                yield replaced(claim, path, 1)
            yield replaced(claim, path, part + (True,))
            yield replaced(claim, path, part + (None,))
        elif isinstance(part, str):
            for other in (part + " ", part.upper() + "x", "", None, 1, (part,)):
                yield replaced(claim, path, other)
        else:
            for other in (str(part), None, (part,), (), True, False):
                yield replaced(claim, path, other)


class ClaimTest(unittest.TestCase):
    def accept(self, claim):
        self.assertIs(judge(claim), True, claim)

    def reject(self, claim):
        self.assertIs(judge(claim), False, claim)

    def check_form(self, good, *changes):
        """Look at a right claim, and at those with other parts at some places, which are not right."""
        self.accept(good)
        for change in changes:
            claim = list(good)
            for at, part in change.items():
                claim[at] = part
            self.assertNotEqual(repr(tuple(claim)), repr(good))
            self.reject(tuple(claim))
        for claim in spoiled(good):
            self.reject(claim)
        for k in range(1, len(good)):
            self.reject(good[:k])
            self.reject(good[:k] + good[k + 1:])
            self.reject(good[:k] + (good[k],) + good[k:])
        self.reject(good + good)
        self.reject((good,))
