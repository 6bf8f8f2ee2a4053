"""Points 65 to 67: systems over the integers."""

import unittest
from fractions import Fraction
from itertools import product

from echelon.elimination import rank, solve
from echelon.errors import ShapeError
from echelon.euclid import (
    hermite, integer_kernel, integer_refute, integer_solve, same_lattice,
)
from echelon.matrices import (
    applied, change, identity, is_matrix, times, transposed, zero_matrix,
)
from tests.sample import Sample

Z = ("Z",)
Q = ("Q",)
BIG = 10 ** 40


def integers(*rows):
    """The matrix over the integers with these rows, of which there is at least one."""
    return len(rows), len(rows[0]), tuple(rows)


def samples(start):
    """Small and large matrices, of full and of lower rank."""
    take = Sample(start)
    for m, n in take.sizes(40, 5):
        yield take.matrix(Z, m, n, 0, 1)
        yield times(Z, take.matrix(Z, m, 2, 0, 1), take.matrix(Z, 2, n, 0, 1))
        yield zero_matrix(Z, m, n)
    for m, n in ((10, 10), (4, 10), (10, 4), (1, 10), (10, 1)):
        yield take.matrix(Z, m, n, 0, 40)
        yield times(Z, take.matrix(Z, m, 3, 0, 20), take.matrix(Z, 3, n, 0, 20))


def combination(k, v):
    """The integers that make v of the columns of k, whose transposed is in Hermite form; or None."""
    rest = list(v)
    out = []
    for column in transposed(k)[2]:
        at = [x != 0 for x in column].index(True)
        step, over = divmod(rest[at], column[at])
        if over:
            return None
        out.append(step)
        rest = [x - step * y for x, y in zip(rest, column)]
    return None if any(rest) else tuple(out)


class KernelTest(unittest.TestCase):
    """Point 65."""

    def check(self, a):
        k = integer_kernel(a)
        self.assertTrue(is_matrix(Z, k))
        self.assertEqual(k[0], a[1])
        self.assertEqual(k[1], a[1] - rank(Q, change(Z, Q, a)))
        self.assertEqual(times(Z, a, k), zero_matrix(Z, a[0], k[1]))
        turned = transposed(k)
        self.assertEqual(hermite(Z, turned)[0], turned)
        # The columns can be completed to a basis of all integer vectors: all vectors of the
        # kernel are their combinations with integers.
        self.assertEqual(hermite(Z, k)[0][2][:k[1]], identity(Z, k[1])[2])
        return k

    def test_samples(self):
        for a in samples(141):
            self.check(a)

    def test_known_kernels(self):
        for a, k in ((integers((2, 4)), integers((2,), (-1,))), (integers((0, 3)), integers((1,), (0,))),
                     (integers((6, 10, 15)), integers((5, 0), (0, 3), (-2, -2))),
                     (integers((1, 1, 1)), integers((1, 0), (0, 1), (-1, -1))),
                     (integers((1, 2), (3, 4)), (2, 0, ((), ()))),
                     (integers((BIG, 1)), integers((1,), (-BIG,))),
                     (zero_matrix(Z, 2, 3), identity(Z, 3)), ((0, 2, ()), identity(Z, 2)),
                     ((2, 0, ((), ())), (0, 0, ())), ((0, 0, ()), (0, 0, ()))):
            self.assertEqual(self.check(a), k)

    def test_all_vectors_in_a_box(self):
        take = Sample(142)
        for m, n in ((1, 2), (1, 3), (2, 3), (2, 4)):
            for _ in range(6):
                a = take.matrix(Z, m, n, 0, 1)
                k = self.check(a)
                for v in product(range(-3, 4), repeat=n):
                    if not any(applied(Z, a, v)):
                        steps = combination(k, v)
                        self.assertIsNotNone(steps)
                        self.assertEqual(applied(Z, k, steps), v)


class SolveTest(unittest.TestCase):
    """Point 66."""

    def check(self, a, b):
        x, y = integer_solve(a, b), integer_refute(a, b)
        self.assertEqual([x, y].count(None), 1)
        if x is not None:
            self.assertTrue(is_matrix(Z, (1, a[1], (x,))))
            self.assertEqual(applied(Z, a, x), b)
        else:
            self.assertTrue(is_matrix(Q, (1, a[0], (y,))))
            numbers = [Fraction(*c) for c in y]
            for j in range(a[1]):
                total = sum(c * row[j] for c, row in zip(numbers, a[2]))
                self.assertEqual(Fraction(total).denominator, 1)
            total = sum(c * e for c, e in zip(numbers, b))
            self.assertNotEqual(Fraction(total).denominator, 1)
        return x

    def test_solvable(self):
        take = Sample(143)
        for a in samples(144):
            for digits in (1, 40):
                v = tuple(take.signed(digits) for _ in range(a[1]))
                self.assertIsNotNone(self.check(a, applied(Z, a, v)))
            self.assertIsNotNone(self.check(a, (0,) * a[0]))

    def test_any_right_sides(self):
        take = Sample(145)
        kinds = {True: 0, False: 0}
        for a in samples(146):
            for digits in (1, 40):
                b = tuple(take.signed(digits) for _ in range(a[0]))
                kinds[self.check(a, b) is None] += 1
        self.assertGreater(min(kinds.values()), 10)

    def test_solvable_by_fractions_alone(self):
        take = Sample(147)
        for n in (1, 2, 3, 6, 10):
            a = take.matrix(Z, n, n, 0, 1)
            b = applied(Z, a, tuple(take.signed(1) for _ in range(n)))
            double = (n, n, tuple(tuple(2 * x for x in row) for row in a[2]))
            odd = tuple(x + (k == 0) * (1 + x % 2) for k, x in enumerate(b))
            rational = solve(Q, change(Z, Q, double), tuple((x, 1) for x in odd))
            if any(x % 2 for x in odd):
                self.assertIsNone(self.check(double, odd))
            if rational is not None and all(d == 1 for _, d in rational):
                self.assertIsNotNone(self.check(double, odd))

    def test_known_systems(self):
        self.assertEqual(self.check(integers((2,)), (6,)), (3,))
        self.assertIsNone(self.check(integers((2,)), (7,)))
        self.assertIsNone(self.check(integers((6, 10)), (3,)))
        self.assertIsNone(self.check(integers((1, 1), (1, 1)), (1, 2)))
        self.assertIsNone(self.check(integers((1, 1), (1, -1)), (1, 0)))
        self.assertIsNone(self.check(integers((0,)), (BIG,)))
        self.assertIsNone(self.check(integers((2, 0), (2, 0)), (1, 2)))
        self.assertIsNone(self.check(integers((2, 0), (2, 0)), (2, 3)))
        self.assertEqual(self.check(integers((BIG + 1, 0), (0, -7)), (0, 21)), (0, -3))

    def test_all_small_systems(self):
        for numbers in product(range(-2, 3), repeat=4):
            a = integers(numbers[:2], numbers[2:])
            values = {applied(Z, a, v) for v in product(range(-4, 5), repeat=2)}
            for b in ((1, 0), (1, 1), (2, 0), (-1, 2)):
                x = self.check(a, b)
                if b in values:
                    self.assertIsNotNone(x)

    def test_without_rows_or_columns(self):
        self.assertEqual(self.check((0, 0, ()), ()), ())
        x = self.check((0, 3, ()), ())
        self.assertEqual(len(x), 3)
        self.assertEqual(self.check((2, 0, ((), ())), (0, 0)), ())
        for b in ((1, 0), (0, -1), (BIG, BIG)):
            self.assertIsNone(self.check((2, 0, ((), ())), b))

    def test_vectors_of_another_length(self):
        for a in (identity(Z, 2), zero_matrix(Z, 2, 3), (2, 0, ((), ()))):
            for b in ((), (0,), (0, 0, 0)):
                for call in (integer_solve, integer_refute):
                    with self.assertRaises(ShapeError):
                        call(a, b)


class LatticeTest(unittest.TestCase):
    """Point 67."""

    def test_mixed_rows(self):
        take = Sample(148)
        for a in samples(149):
            mixed = times(Z, take.mixing(Z, a[0]), a)
            self.assertIs(same_lattice(a, mixed), True)
            longer = (a[0] + 1, a[1], mixed[2] + ((0,) * a[1],))
            self.assertIs(same_lattice(longer, a), True)
            double = (a[0], a[1], tuple(tuple(2 * x for x in row) for row in a[2]))
            self.assertIs(same_lattice(a, double), not any(any(row) for row in a[2]))

    def test_known_lattices(self):
        a = integers((2, 0), (0, 2))
        self.assertIs(same_lattice(a, integers((2, 2), (0, -2), (4, 6))), True)
        self.assertIs(same_lattice(a, integers((2, 1), (0, 2))), False)
        self.assertIs(same_lattice(a, identity(Z, 2)), False)
        self.assertIs(same_lattice(a, integers((2, 0))), False)
        self.assertIs(same_lattice(integers((4,), (6,)), integers((-2,))), True)
        self.assertIs(same_lattice((0, 2, ()), zero_matrix(Z, 3, 2)), True)
        self.assertIs(same_lattice((0, 2, ()), integers((0, 1))), False)
        self.assertIs(same_lattice((2, 0, ((), ())), (0, 0, ())), True)

    def test_different_numbers_of_columns(self):
        for a, b in ((identity(Z, 2), identity(Z, 3)), ((0, 0, ()), (0, 1, ())),
                     (integers((1, 0)), integers((1,)))):
            with self.assertRaises(ShapeError):
                same_lattice(a, b)
            with self.assertRaises(ShapeError):
                same_lattice(b, a)


if __name__ == "__main__":
    unittest.main()
