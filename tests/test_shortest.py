"""Points 129 and 130: shortest and closest vectors."""

import unittest
from fractions import Fraction
from itertools import product
from math import floor

from echelon.elimination import rank
from echelon.errors import ShapeError, SingularError
from echelon.lattices import coordinates, dual, reduce_basis, volume
from echelon.matrices import change, identity, is_matrix, row_times, times, zero_matrix
from echelon.shortest import closest, minimal_vectors, shortest
from tests.sample import Sample
from tests.test_lattices import DEPENDENT, integers, value

Z = ("Z",)
Q = ("Q",)
FAR = 10 ** 12 - 1

# Lattices with many shortest vectors: those of the root systems D4, A5, D6 and E6.
D4 = integers((1, -1, 0, 0), (0, 1, -1, 0), (0, 0, 1, -1), (0, 0, 1, 1))
A5 = (5, 6, tuple(tuple(1 if j == i else -1 if j == i + 1 else 0 for j in range(6)) for i in range(5)))
D6 = (6, 6, tuple(tuple(1 if j == i else -1 if j == i + 1 else 0 for j in range(6)) for i in range(5))
      + ((0, 0, 0, 0, 1, 1),))
E6 = (6, 9, ((1, -1, 0, 0, 0, 0, 0, 0, 0), (0, 1, -1, 0, 0, 0, 0, 0, 0), (0, 0, 0, 1, -1, 0, 0, 0, 0),
             (0, 0, 0, 0, 1, -1, 0, 0, 0), (0, 0, 0, 0, 0, 0, 1, -1, 0), (0, 0, 0, 0, 0, 0, 0, 1, -1)))


def square(v):
    return sum(x * x for x in v)


def limits_of(b, bound):
    """For each coefficient the largest absolute value within combinations of a square up to bound.

    A coefficient is the product with the row of the dual basis, so Cauchy's inequality limits it.
    """
    out = []
    for row in dual(b)[2]:
        size = sum(value(x) * value(x) for x in row) * bound
        k = 0
        while (k + 1) * (k + 1) <= size:
            k += 1
        out.append(k)
    return out


def all_short(b, bound):
    """All vectors of a lattice with a square of at most bound, as a dict of their squares."""
    spans = [range(-k, k + 1) for k in limits_of(b, bound)]
    out = {}
    for x in product(*spans):
        v = row_times(Z, x, b)
        if square(v) <= bound:
            out[v] = square(v)
    return out


def small_bases(start, many, largest, digits=1):
    take = Sample(start)
    found = 0
    while found < many:
        m = take.between(1, largest)
        n = take.between(m, largest + 1)
        b = take.matrix(Z, m, n, 0, digits)
        if rank(Q, change(Z, Q, b)) == m:
            found += 1
            yield b


def long_basis(take, m, n):
    b = zero_matrix(Z, m, n)
    while rank(Q, change(Z, Q, b)) < m:
        b = take.matrix(Z, m, n, 0, 12)
    return b


def skewed(take, b):
    """Another basis of the same lattice."""
    return times(Z, take.mixing(Z, b[0], 8), b)


class MinimalTest(unittest.TestCase):
    """Point 129."""

    def check(self, b):
        vectors = minimal_vectors(b)
        self.assertIs(type(vectors), list)
        least = square(vectors[0])
        for v in vectors:
            self.assertTrue(is_matrix(Z, (1, b[1], (v,))))
            self.assertEqual(square(v), least)
            self.assertGreater(next(x for x in v if x), 0)
            self.assertIsNotNone(coordinates(b, v))
        self.assertEqual(vectors, sorted(set(vectors)))
        self.assertEqual(shortest(b), (vectors[0], least))
        self.assertIs(type(shortest(b)), tuple)
        return vectors, least

    def check_all(self, b):
        """The same, beside all short combinations of a basis that is not too long."""
        vectors, least = self.check(b)
        found = all_short(reduce_basis(b)[0], least)
        expected = sorted(v for v in found if any(v) and next(x for x in v if x) > 0)
        self.assertEqual(vectors, expected)
        self.assertEqual({found[v] for v in expected}, {least})

    def test_small_lattices(self):
        for b in small_bases(221, 60, 4):
            self.check_all(b)
        for b in small_bases(222, 20, 3, 3):
            self.check_all(b)

    def test_many_shortest_vectors(self):
        take = Sample(223)
        for b, many, least in ((identity(Z, 1), 1, 1), (identity(Z, 2), 2, 1), (identity(Z, 6), 6, 1),
                               (D4, 12, 2), (A5, 15, 2), (D6, 30, 2), (E6, 9, 2),
                               (integers((2, 0), (1, 2)), 1, 4), (integers((1, -1, 0), (0, 1, -1)), 3, 2)):
            for a in (b, skewed(take, b)):
                vectors, found = self.check(a)
                self.assertEqual(len(vectors), many)
                self.assertEqual(found, least)
                if b[0] < 5:
                    self.check_all(a)

    def test_known_vectors(self):
        self.assertEqual(minimal_vectors(integers((0, 2), (1, 0))), [(1, 0)])
        self.assertEqual(minimal_vectors(integers((1, 0), (0, 1))), [(0, 1), (1, 0)])
        self.assertEqual(minimal_vectors(integers((1, 1), (1, -1))), [(1, -1), (1, 1)])
        self.assertEqual(minimal_vectors(integers((-3,))), [(3,)])
        self.assertEqual(shortest(integers((0, -3, 1))), ((0, 3, -1), 10))
        self.assertEqual(shortest(integers((-5, 0), (0, 5))), ((0, 5), 25))
        self.assertEqual(shortest(integers((4, 1), (7, 2))), ((0, 1), 1))

    def test_long_entries(self):
        take = Sample(224)
        for m, n in ((1, 1), (2, 2), (3, 3), (4, 5), (6, 6), (6, 10)):
            b = long_basis(take, m, n)
            vectors, least = self.check(b)
            # Minkowski and Hermite: the least square to the power m is at most
            # (4 / 3) ** (m (m - 1) / 2) times the volume.
            self.assertLessEqual(least ** m * 3 ** (m * (m - 1) // 2), volume(b) * 4 ** (m * (m - 1) // 2))
            c = reduce_basis(b)[0]
            for x in product(range(-1, 2), repeat=m):
                if any(x):
                    self.assertGreaterEqual(square(row_times(Z, x, c)), least)
            self.assertEqual(minimal_vectors(skewed(take, b)), vectors)

    def test_rows_of_unlike_lengths(self):
        for b, v in ((integers((FAR, 0), (0, 1)), (0, 1)), (integers((1, FAR), (0, FAR * 10)), None),
                     (integers((1, 0, 0), (0, 10 ** 6, 0), (FAR, 0, FAR)), (1, 0, 0))):
            vectors, _ = self.check(b)
            if v is not None:
                self.assertEqual(vectors, [v])


def all_nearest(b, v):
    """(vectors, square): all nearest vectors of the lattice of a basis to a vector of fractions."""
    goal = [value(x) for x in v]
    bound = sum(x * x for x in goal)
    # A coefficient differs from the product of the goal and the row of the dual basis by at
    # most the distance times the length of that row.
    spans = []
    for row in dual(b)[2]:
        center = sum(x * value(y) for x, y in zip(goal, row))
        size = sum(value(x) * value(x) for x in row) * bound
        low, high = floor(center), floor(center) + 1
        while (center - low) ** 2 <= size:
            low -= 1
        while (center - high) ** 2 <= size:
            high += 1
        spans.append(range(low, high + 1))
    found = {}
    for x in product(*spans):
        w = row_times(Z, x, b)
        found[w] = sum((x - y) * (x - y) for x, y in zip(goal, w))
    least = min(found.values())
    return sorted(w for w in found if found[w] == least), least


class ClosestTest(unittest.TestCase):
    """Point 130."""

    def check(self, b, v):
        answer = closest(b, v)
        self.assertIs(type(answer), tuple)
        w, s = answer
        self.assertTrue(is_matrix(Z, (1, b[1], (w,))))
        self.assertIsNotNone(coordinates(b, w))
        far = sum((value(x) - y) ** 2 for x, y in zip(v, w)) + Fraction(0)
        self.assertEqual(s, (far.numerator, far.denominator))
        return w, far

    def check_all(self, b, v):
        w, far = self.check(b, v)
        vectors, least = all_nearest(reduce_basis(b)[0], v)
        self.assertEqual((w, far), (vectors[0], least))
        return len(vectors)

    def test_small_lattices(self):
        take = Sample(225)
        for b in small_bases(225, 60, 3):
            self.check_all(b, take.vector(Q, b[1], 0, 1))
            self.check_all(b, tuple((x, 1) for x in take.vector(Z, b[1], 0, 1)))

    def test_vectors_of_the_lattice(self):
        take = Sample(226)
        for b in small_bases(226, 30, 6, 2):
            w = row_times(Z, take.vector(Z, b[0], 0, 2), b)
            self.assertEqual(closest(b, tuple((x, 1) for x in w)), (w, (0, 1)))

    def test_several_nearest_vectors(self):
        # The middles of the cells: the first one in ascending order is taken.
        half = (1, 2)
        for b, v, w, s in ((identity(Z, 1), (half,), (0,), (1, 4)), (identity(Z, 2), (half, half), (0, 0), half),
                           (identity(Z, 2), ((-1, 2), (7, 2)), (-1, 3), half),
                           (identity(Z, 6), (half,) * 6, (0,) * 6, (3, 2)),
                           (integers((1, 1), (1, -1)), ((1, 1), (0, 1)), (0, 0), (1, 1)),
                           (integers((2, 0), (0, 3)), ((1, 1), (3, 2)), (0, 0), (13, 4)),
                           (D4, ((1, 1), (0, 1), (0, 1), (0, 1)), (0, 0, 0, 0), (1, 1)),
                           (D4, (half,) * 4, (0, 0, 0, 0), (1, 1))):
            self.assertEqual(closest(b, v), (w, s))
            if b[0] < 5:
                self.assertGreater(self.check_all(b, v), 1)
        take = Sample(227)
        for b in small_bases(227, 20, 3):
            double = tuple((x, 2) if x % 2 else (x // 2, 1) for x in row_times(Z, take.vector(Z, b[0], 0, 1), b))
            self.check_all(b, double)
            self.check_all(skewed(take, b), double)

    def test_outside_of_the_combinations(self):
        self.assertEqual(closest(integers((1, 1, 0)), ((3, 1), (0, 1), (5, 1))), ((1, 1, 0), (30, 1)))
        self.assertEqual(closest(integers((0, 0, 2)), ((1, 3), (1, 2), (31, 10))), ((0, 0, 4), (527, 450)))

    def test_without_rows(self):
        self.assertEqual(closest((0, 2, ()), ((1, 2), (-3, 1))), ((0, 0), (37, 4)))
        self.assertEqual(closest((0, 0, ()), ()), ((), (0, 1)))

    def test_long_entries(self):
        take = Sample(228)
        for m, n in ((1, 1), (2, 2), (3, 3), (5, 6), (6, 6), (6, 10)):
            b = long_basis(take, m, n)
            c = reduce_basis(b)[0]
            for digits in (1, 12, 40):
                v = tuple((x + 10 ** 6 * take.signed(8) * y, y) for x, y in take.vector(Q, n, 0, digits))
                w, far = self.check(b, v)
                for x in product(range(-1, 2), repeat=m):
                    near = [p + q for p, q in zip(w, row_times(Z, x, c))]
                    self.assertGreaterEqual(sum((value(p) - q) ** 2 for p, q in zip(v, near)), far)
                self.assertEqual(closest(skewed(take, b), v)[0], w)

    def test_rows_of_unlike_lengths(self):
        # Many combinations are as near as the first one found seems to be, and are not.
        b = integers((1, 0, 0), (0, 10 ** 6, 0), (0, 5 * 10 ** 5, FAR))
        for v in (((1, 2), (249999, 1), (FAR, 2)), ((1, 3), (10 ** 6, 2), (FAR, 2)),
                  ((0, 1), (0, 1), (FAR, 2)), ((1, 7), (5 * 10 ** 5, 1), (FAR - 1, 2)),
                  ((10 ** 9, 7), (10 ** 13, 7), (10 ** 20, 7))):
            w, far = self.check(b, v)
            for x in product(range(-2, 3), repeat=3):
                near = [p + q for p, q in zip(w, row_times(Z, x, b))]
                self.assertGreaterEqual(sum((value(p) - q) ** 2 for p, q in zip(v, near)), far)


    def test_coefficients_that_are_not_the_nearest_ones(self):
        # Reduced bases whose rows are ever shorter beside those before them: the last coefficient
        # of the nearest vector is one or two away from what seems best at first.
        for b, v, w, s in (
                (integers((1000, 0, 0, 0, 0), (-500, 716, 0, 0, 0), (500, 358, 514, 0, 0), (153, 358, 257, 368, 0),
                          (209, 358, 160, -184, 264)),
                 (4112, 1607, 4285, 205, -3302), (4074, 1790, 4248, 0, -3168), 96283),
                (integers((1000, 0, 0, 0, 0, 0), (500, 716, 0, 0, 0, 0), (-500, 358, 514, 0, 0, 0),
                          (-500, 358, 257, 368, 0, 0), (-500, -126, -257, -184, 264, 0), (500, 273, 257, 184, 132, 190)),
                 (1638, 1905, -4878, -4288, -2569, -2172), (1500, 1841, -4883, -4416, -2508, -2470), 132074),
                (integers((1000, 0, 0, 0, 0, 0), (-500, 716, 0, 0, 0, 0), (-500, -358, 514, 0, 0, 0),
                          (-500, -358, 257, 368, 0, 0), (-63, 218, -257, 184, 264, 0), (152, -358, -235, 174, 132, 190)),
                 (4119, 1902, -2288, 1735, 79, -3708), (4197, 1962, -2452, 1836, 0, -3420), 135966)):
            self.assertEqual(closest(b, tuple((x, 1) for x in v)), (w, (s, 1)))
            opposite = tuple((-x, 1) for x in v)
            self.assertEqual(closest(b, opposite), (tuple(-x for x in w), (s, 1)))


class ErrorTest(unittest.TestCase):
    """Points 6 and 120."""

    def test_no_rows(self):
        for n in (0, 1, 5):
            for function in (shortest, minimal_vectors):
                with self.assertRaises(SingularError):
                    function((0, n, ()))

    def test_dependent_rows(self):
        for a in DEPENDENT + (integers((0, 0), (0, 0)), zero_matrix(Z, 6, 6), zero_matrix(Z, 6, 0)):
            for function in (shortest, minimal_vectors):
                with self.assertRaises(SingularError):
                    function(a)
            with self.assertRaises(SingularError):
                closest(a, ((1, 2),) * a[1])

    def test_sizes_come_first(self):
        for a in (identity(Z, 7), zero_matrix(Z, 7, 7), zero_matrix(Z, 10, 3), zero_matrix(Z, 7, 0)):
            for function in (shortest, minimal_vectors):
                with self.assertRaises(ShapeError):
                    function(a)
            with self.assertRaises(ShapeError):
                closest(a, ((1, 2),) * a[1])
        for a in DEPENDENT + (identity(Z, 2), identity(Z, 6), (0, 2, ()), (0, 0, ())):
            with self.assertRaises(ShapeError):
                closest(a, ((1, 2),) * (a[1] + 1))
            if a[1]:
                with self.assertRaises(ShapeError):
                    closest(a, ((1, 2),) * (a[1] - 1))

    def test_arguments_stay_and_answers_repeat(self):
        take = Sample(229)
        b, v = take.matrix(Z, 4, 5, 0, 3), take.vector(Q, 5, 0, 3)
        copies = (b[0], b[1], tuple(tuple(row) for row in b[2])), tuple(tuple(x) for x in v)
        for function in (shortest, minimal_vectors):
            self.assertEqual(function(b), function(b))
        self.assertEqual(closest(b, v), closest(b, v))
        self.assertEqual((b, v), copies)


if __name__ == "__main__":
    unittest.main()
