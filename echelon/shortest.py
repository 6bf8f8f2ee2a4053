"""Shortest and closest vectors of lattices (points 129 and 130)."""

from echelon.errors import ShapeError, SingularError
from echelon.lattices import need_basis, reduce_basis
from echelon.matrices import need_length, row_times
from echelon.numbers import fraction
from echelon.reduction import gram_schmidt, product_of_rows, shadow_of
from echelon.rows import cleared_row

WHOLE = ("Z",)
RATIONAL = ("Q",)
MOST_ROWS = 6


class Search:
    """A walk through the combinations of the rows of a reduced basis that are near to a goal.

    The goal is given by its shadows on the rows, and combinations are taken times the scale.
    What is left of the difference beside the first k rows has a square that is an integer if it
    is multiplied by d[k]: a determinant of products of rows.
    """

    def __init__(self, rows, goal, scale):
        self.d, self.shadows = gram_schmidt(rows)
        self.goal = goal
        self.scale = scale
        self.best = None
        self.found = []

    def walk(self, chosen, total, with_zero):
        """Keep the best ones of the combinations that end in the chosen coefficients."""
        at = len(self.shadows) - 1 - len(chosen)
        if at < 0:
            if with_zero or any(chosen):
                self.keep(chosen, total)
            return
        gap = self.goal[at]
        for k, x in enumerate(chosen, start=at + 1):
            gap -= self.scale * self.shadows[k][at] * x
        step = self.scale * self.d[at + 1]
        nearest = (2 * gap + step) // (2 * step)
        # Away from the nearest coefficient the distance grows; the best one so far is the limit.
        for x, way in ((nearest, 1), (nearest - 1, -1)):
            reached = self.square(at, gap - step * x, total)
            while self.best is None or reached <= self.best * self.d[at]:
                self.walk([x] + chosen, reached, with_zero)
                x += way
                reached = self.square(at, gap - step * x, total)

    def square(self, at, shadow, total):
        """Return the square of what is left beside one row less, times d[at]."""
        return (self.d[at] * total + shadow * shadow) // self.d[at + 1]

    def keep(self, chosen, total):
        """Keep a combination that is at least as good as those before it."""
        if self.best is None or total < self.best:
            self.best = total
            self.found = []
        self.found.append(chosen)


def short_combinations(rows):
    """Return (combinations, s): those of a reduced basis with the least square s above zero."""
    search = Search(rows, [0] * len(rows), 1)
    search.best = min([product_of_rows(row, row) for row in rows])
    search.walk([], 0, False)
    return search.found, search.best


def need_few_rows(b):
    """Raise ShapeError if a matrix has too many rows for an enumeration."""
    if b[0] > MOST_ROWS:
        raise ShapeError("the matrix has too many rows")


def least_vectors(b):
    """Return (vectors, s): the vectors of point 129 in ascending order, and their square."""
    need_few_rows(b)
    need_basis(b)
    if b[0] == 0:
        raise SingularError("there is no vector but zero")
    c = reduce_basis(b)[0]
    found, square = short_combinations(c[2])
    vectors = [row_times(WHOLE, tuple(x), c) for x in found]
    return sorted([v for v in vectors if is_upward(v)]), square


def is_upward(v):
    """Return whether the first entry that is not zero is positive."""
    for x in v:
        if x:
            return x > 0
    return False


def minimal_vectors(b):
    """Return the vectors other than zero with the least square, one of each two opposite ones."""
    return least_vectors(b)[0]


def shortest(b):
    """Return (v, s): the first one of the minimal vectors and its square."""
    vectors, square = least_vectors(b)
    return vectors[0], square


def closest(b, v):
    """Return (w, s): the first one of the nearest vectors of the lattice, and its distance squared."""
    need_few_rows(b)
    need_length(v, b[1])
    need_basis(b)
    c = reduce_basis(b)[0]
    goal, scale = cleared_row(RATIONAL, v)
    d, shadows = gram_schmidt(c[2])
    line = shadow_of(c[2], d, shadows, goal)
    search = Search(c[2], line, scale)
    search.walk([], line[-1], True)
    w = min([row_times(WHOLE, tuple(x), c) for x in search.found])
    return w, fraction(search.best, scale * scale)
