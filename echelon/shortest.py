"""Shortest and closest vectors of lattices (points 129 and 130)."""

from math import lcm

from echelon.errors import ShapeError, SingularError
from echelon.lattices import need_basis, reduce_basis
from echelon.matrices import need_length, row_times
from echelon.numbers import fraction
from echelon.reduction import gram_schmidt, product_of_rows, shadow_of
from echelon.rows import cleared_row

WHOLE = ("Z",)
RATIONAL = ("Q",)
MOST_ROWS = 6


class Search:
    """A walk through the combinations of the rows of a reduced basis that are near to a goal.

    The goal is given by its shadows on the rows, and it is goal / scale in truth. All squares
    of distances are multiplied by one number, so that they are integers; what the goal has
    outside of all combinations of the rows is left out of them.
    """

    def __init__(self, rows, goal, scale):
        self.d, self.shadows = gram_schmidt(rows)
        self.goal = goal
        self.scale = scale
        pairs = [self.d[k] * self.d[k + 1] for k in range(len(rows))]
        self.unit = lcm_of(pairs)
        self.weights = [self.unit // pair for pair in pairs]
        self.best = None
        self.found = []

    def walk(self, chosen, total, with_zero):
        """Keep the best ones of the combinations that end in the chosen coefficients."""
        at = len(self.shadows) - 1 - len(chosen)
        if at < 0:
            if with_zero or any(chosen):
                self.keep(chosen, total)
            return
        gap = self.goal[at]
        for k, x in enumerate(chosen, start=at + 1):
            gap -= self.scale * self.shadows[k][at] * x
        step = self.scale * self.d[at + 1]
        nearest = (2 * gap + step) // (2 * step)
        # Away from the nearest coefficient the distance grows; the best one so far is the limit.
        for x, way in ((nearest, 1), (nearest - 1, -1)):
            reached = total + (gap - step * x) * (gap - step * x) * self.weights[at]
            while self.best is None or reached <= self.best:
                self.walk([x] + chosen, reached, with_zero)
                x += way
                reached = total + (gap - step * x) * (gap - step * x) * self.weights[at]

    def keep(self, chosen, total):
        """Keep a combination that is at least as good as those before it."""
        if self.best is None or total < self.best:
            self.best = total
            self.found = []
        self.found.append(chosen)


def lcm_of(numbers):
    """Return the least common multiple of integers above zero."""
    out = 1
    for k in numbers:
        out = lcm(out, k)
    return out


def short_combinations(rows):
    """Return (combinations, s): those of a reduced basis with the least square s above zero."""
    search = Search(rows, [0] * len(rows), 1)
    search.best = search.unit * min([product_of_rows(row, row) for row in rows])
    search.walk([], 0, False)
    return search.found, search.best // search.unit


def need_few_rows(b):
    """Raise ShapeError if a matrix has too many rows for an enumeration."""
    if b[0] > MOST_ROWS:
        raise ShapeError("the matrix has too many rows")


def least_vectors(b):
    """Return (vectors, s): the vectors of point 129 in ascending order, and their square."""
    need_few_rows(b)
    need_basis(b)
    if b[0] == 0:
        raise SingularError("there is no vector but zero")
    c = reduce_basis(b)[0]
    found, square = short_combinations(c[2])
    vectors = [row_times(WHOLE, tuple(x), c) for x in found]
    return sorted([v for v in vectors if is_upward(v)]), square


def is_upward(v):
    """Return whether the first entry that is not zero is positive."""
    for x in v:
        if x:
            return x > 0
    return False


def minimal_vectors(b):
    """Return the vectors other than zero with the least square, one of each two opposite ones."""
    return least_vectors(b)[0]


def shortest(b):
    """Return (v, s): the first one of the minimal vectors and its square."""
    vectors, square = least_vectors(b)
    return vectors[0], square


def closest(b, v):
    """Return (w, s): the first one of the nearest vectors of the lattice, and its distance squared."""
    need_few_rows(b)
    need_length(v, b[1])
    need_basis(b)
    c = reduce_basis(b)[0]
    goal, scale = cleared_row(RATIONAL, v)
    d, shadows = gram_schmidt(c[2])
    search = Search(c[2], shadow_of(c[2], d, shadows, goal), scale)
    search.walk([], 0, True)
    w = min([row_times(WHOLE, tuple(x), c) for x in search.found])
    rest = [x - scale * y for x, y in zip(goal, w)]
    return w, fraction(product_of_rows(rest, rest), scale * scale)
