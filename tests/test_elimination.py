"""Points 45 to 51: elimination over a field."""

import unittest
from itertools import permutations, product

from echelon.domains import add, multiply, negate, one, zero
from echelon.elimination import (
    column_basis, determinant, factors, inverted, kernel, rank, reduce, refute, sign, solve, split,
)
from echelon.errors import DomainError, ShapeError, SingularError
from echelon.matrices import (
    applied, beside, diagonal, identity, is_matrix, matrix, part, row_times, times, transposed,
    zero_matrix,
)
from tests.sample import EUCLIDEAN, FIELDS, NO_DOMAINS, Sample, by_permutations

Q = ("Q",)
F2 = ("F", 2)
F3 = ("F", 3)
F7 = ("F", 7)


def fractions(*rows):
    """The matrix over the fractions with these integers as its entries."""
    return len(rows), len(rows[0]), tuple(tuple((n, 1) for n in row) for row in rows)


def integers(*rows):
    return len(rows), len(rows[0]), tuple(rows)


def product_of(f, u, v):
    """The product of two vectors."""
    total = zero(f)
    for x, y in zip(u, v):
        total = add(f, total, multiply(f, x, y))
    return total


def of_rank(take, f, m, n, r, digits=2):
    """A product of two matrices; its rank is mostly r."""
    return times(f, take.matrix(f, m, r, 0, digits), take.matrix(f, r, n, 0, digits))


def samples(start):
    """Matrices over all fields: small, wide, high, of full and of lower rank."""
    take = Sample(start)
    for f in FIELDS:
        for m, n in take.sizes(20, 6):
            yield f, take.matrix(f, m, n)
            yield f, of_rank(take, f, m, n, max(0, min(m, n) - take.between(1, 2)))
            yield f, zero_matrix(f, m, n)
        yield f, take.matrix(f, 10, 11, 0, 40)
        yield f, of_rank(take, f, 11, 10, 6, 20)


def all_small(f, m, n):
    for numbers in product(range(f[1]), repeat=m * n):
        yield m, n, tuple(numbers[i * n:i * n + n] for i in range(m))


class ReduceTest(unittest.TestCase):
    """Points 45, 46 and 51."""

    def look_at_form(self, f, r, pivots):
        """Whether r is in reduced echelon form with these columns of its pivots."""
        self.assertIs(type(pivots), tuple)
        self.assertEqual(list(pivots), sorted(set(pivots)))
        for k, row in enumerate(r[2]):
            if k < len(pivots):
                at = pivots[k]
                self.assertEqual(row[:at], (zero(f),) * at)
                self.assertEqual([line[at] for line in r[2]],
                                 [one(f) if i == k else zero(f) for i in range(r[0])])
            else:
                self.assertEqual(row, (zero(f),) * r[1])

    def check(self, f, a):
        answer = reduce(f, a)
        self.assertIs(type(answer), tuple)
        r, t, s, pivots = answer
        for b in (r, t, s):
            self.assertTrue(is_matrix(f, b))
        self.assertEqual(r[:2], a[:2])
        self.look_at_form(f, r, pivots)
        self.assertEqual(times(f, t, a), r)
        self.assertEqual(times(f, t, s), identity(f, a[0]))
        self.assertEqual(rank(f, a), len(pivots))
        self.assertEqual(column_basis(f, a), pivots)
        c, rows = factors(f, a)
        self.assertTrue(is_matrix(f, c))
        self.assertTrue(is_matrix(f, rows))
        self.assertEqual(c, part(a, list(range(a[0])), list(pivots)))
        self.assertEqual(rows, (len(pivots), a[1], r[2][:len(pivots)]))
        self.assertEqual(times(f, c, rows), a)

    def test_samples(self):
        for f, a in samples(101):
            self.check(f, a)

    def test_all_small_matrices(self):
        for f, m, n in ((F2, 3, 3), (F3, 2, 3), (F3, 3, 2), (F2, 2, 4)):
            for a in all_small(f, m, n):
                self.check(f, a)

    def test_known_forms(self):
        a = fractions((0, 2, 4, 0), (0, 1, 2, 3), (0, 3, 6, 3))
        r, _, _, pivots = reduce(Q, a)
        self.assertEqual(r, fractions((0, 1, 2, 0), (0, 0, 0, 1), (0, 0, 0, 0)))
        self.assertEqual(pivots, (1, 3))
        self.assertEqual(reduce(F7, integers((3, 5), (1, 4)))[0], integers((1, 4), (0, 0)))
        self.assertEqual(reduce(Q, (0, 3, ())), ((0, 3, ()), (0, 0, ()), (0, 0, ()), ()))
        r, t, s, pivots = reduce(F3, (2, 0, ((), ())))
        self.assertEqual((r, pivots), ((2, 0, ((), ())), ()))
        self.assertEqual(times(F3, t, s), identity(F3, 2))
        self.assertEqual(rank(F2, zero_matrix(F2, 3, 4)), 0)

    def test_the_form_does_not_depend_on_the_rows(self):
        take = Sample(102)
        for f in FIELDS:
            for _ in range(10):
                a = of_rank(take, f, 4, 5, 3)
                mixed = times(f, take.matrix(f, 4, 4), a)
                if rank(f, mixed) == rank(f, a):
                    self.assertEqual(reduce(f, mixed)[0], reduce(f, a)[0])
                turned = part(a, [2, 0, 3, 1], list(range(5)))
                self.assertEqual(reduce(f, turned)[0], reduce(f, a)[0])

    def test_ranks(self):
        take = Sample(103)
        for f in (Q, ("F", 65521)):
            for r in range(6):
                self.assertEqual(rank(f, of_rank(take, f, 7, 8, r, 40)), r)
        self.assertEqual(rank(Q, fractions((1, 2), (2, 4))), 1)


class KernelTest(unittest.TestCase):
    """Point 47."""

    def test_samples(self):
        for f, a in samples(104):
            k = kernel(f, a)
            self.assertTrue(is_matrix(f, k))
            self.assertEqual(times(f, a, k), zero_matrix(f, a[0], k[1]))
            pivots = column_basis(f, a)
            free = [j for j in range(a[1]) if j not in pivots]
            self.assertEqual(k[:2], (a[1], len(free)))
            self.assertEqual(part(k, free, list(range(len(free)))), identity(f, len(free)))

    def test_known_kernels(self):
        self.assertEqual(kernel(Q, fractions((1, 2, 3))), fractions((-2, -3), (1, 0), (0, 1)))
        self.assertEqual(kernel(F7, integers((0, 1, 2))), integers((1, 0), (0, 5), (0, 1)))
        self.assertEqual(kernel(F2, integers((1, 0), (1, 1))), (2, 0, ((), ())))
        self.assertEqual(kernel(F2, (0, 2, ())), identity(F2, 2))
        self.assertEqual(kernel(F2, (2, 0, ((), ()))), (0, 0, ()))
        self.assertEqual(kernel(Q, zero_matrix(Q, 1, 3)), identity(Q, 3))

    def test_all_vectors_of_small_kernels(self):
        for f in (F2, F3):
            for a in all_small(f, 2, 3):
                k = kernel(f, a)
                found = {applied(f, k, v) for v in product(range(f[1]), repeat=k[1])}
                expected = {v for v in product(range(f[1]), repeat=3) if not any(applied(f, a, v))}
                self.assertEqual(found, expected)


class SolveTest(unittest.TestCase):
    """Point 48."""

    def check(self, f, a, b):
        x, y = solve(f, a, b), refute(f, a, b)
        self.assertEqual([x, y].count(None), 1)
        if x is not None:
            self.assertTrue(is_matrix(f, (1, a[1], (x,))))
            self.assertEqual(applied(f, a, x), b)
            pivots = column_basis(f, a)
            for j in range(a[1]):
                if j not in pivots:
                    self.assertEqual(x[j], zero(f))
        else:
            self.assertTrue(is_matrix(f, (1, a[0], (y,))))
            self.assertEqual(row_times(f, y, a), (zero(f),) * a[1])
            self.assertEqual(product_of(f, y, b), one(f))
        return x

    def test_samples(self):
        take = Sample(105)
        for f, a in samples(106):
            self.check(f, a, take.vector(f, a[0], 0, 40))
            self.assertIsNotNone(self.check(f, a, applied(f, a, take.vector(f, a[1]))))
            self.assertEqual(self.check(f, a, (zero(f),) * a[0]), (zero(f),) * a[1])

    def test_all_small_systems(self):
        for f in (F2, F3):
            for a in all_small(f, 2, 2):
                values = {applied(f, a, v) for v in product(range(f[1]), repeat=2)}
                for b in product(range(f[1]), repeat=2):
                    self.assertEqual(self.check(f, a, b) is not None, b in values)

    def test_known_systems(self):
        a = fractions((1, 2, 1), (2, 4, 0))
        self.assertEqual(solve(Q, a, ((1, 1), (3, 1))), ((3, 2), (0, 1), (-1, 2)))
        self.assertIsNone(solve(Q, fractions((1, 1), (1, 1)), ((1, 1), (2, 1))))
        self.assertEqual(solve(Q, (0, 2, ()), ()), ((0, 1), (0, 1)))
        self.assertIsNone(refute(Q, (0, 2, ()), ()))
        self.assertEqual(solve(F7, (1, 0, ((),)), (0,)), ())
        self.assertIsNone(solve(F7, (1, 0, ((),)), (3,)))
        self.assertEqual(refute(F7, (1, 0, ((),)), (3,)), (5,))

    def test_vectors_of_another_length(self):
        for f in FIELDS:
            for a in (identity(f, 2), zero_matrix(f, 2, 1), (2, 0, ((), ()))):
                for n in (0, 1, 3):
                    for call in (solve, refute):
                        with self.assertRaises(ShapeError):
                            call(f, a, (zero(f),) * n)


class InvertedTest(unittest.TestCase):
    """Point 49."""

    def test_samples(self):
        for f, a in samples(107):
            if a[0] != a[1]:
                with self.assertRaises(ShapeError):
                    inverted(f, a)
            elif rank(f, a) < a[0]:
                with self.assertRaises(SingularError):
                    inverted(f, a)
            else:
                b = inverted(f, a)
                self.assertTrue(is_matrix(f, b))
                self.assertEqual(times(f, a, b), identity(f, a[0]))
                self.assertEqual(times(f, b, a), identity(f, a[0]))

    def test_all_small_matrices(self):
        for f in (F2, F3):
            for a in all_small(f, 2, 2):
                if by_permutations(f, a):
                    self.assertEqual(times(f, inverted(f, a), a), identity(f, 2))
                else:
                    with self.assertRaises(SingularError):
                        inverted(f, a)

    def test_long_numbers(self):
        take = Sample(108)
        for f in FIELDS:
            a = take.matrix(f, 10, 10, 0, 40)
            if rank(f, a) == 10:
                self.assertEqual(times(f, inverted(f, a), a), identity(f, 10))

    def test_known_inverses(self):
        self.assertEqual(inverted(Q, (0, 0, ())), (0, 0, ()))
        self.assertEqual(inverted(Q, fractions((0, 1), (1, 0))), fractions((0, 1), (1, 0)))
        self.assertEqual(inverted(Q, fractions((2,))), (1, 1, (((1, 2),),)))
        for a in (zero_matrix(Q, 1, 1), fractions((1, 2), (2, 4))):
            with self.assertRaises(SingularError):
                inverted(Q, a)


class SplitTest(unittest.TestCase):
    """Point 50."""

    def check(self, f, a):
        order, lower, upper = split(f, a)
        n = a[0]
        self.assertIs(type(order), tuple)
        self.assertEqual(sorted(order), list(range(n)))
        self.assertTrue(is_matrix(f, lower))
        self.assertTrue(is_matrix(f, upper))
        self.assertEqual((lower[:2], upper[:2]), ((n, n), (n, n)))
        total = one(f)
        for i in range(n):
            self.assertEqual(lower[2][i][i], one(f))
            self.assertEqual(lower[2][i][i + 1:], (zero(f),) * (n - 1 - i))
            self.assertEqual(upper[2][i][:i], (zero(f),) * i)
            total = multiply(f, total, upper[2][i][i])
        self.assertEqual(times(f, lower, upper), part(a, list(order), list(range(n))))
        if sign(order) < 0:
            total = negate(f, total)
        self.assertEqual(determinant(f, a), total)

    def test_samples(self):
        for f, a in samples(109):
            if a[0] == a[1]:
                self.check(f, a)
        take = Sample(110)
        for f in FIELDS:
            for n in range(11):
                self.check(f, take.matrix(f, n, n))
                self.check(f, of_rank(take, f, n, n, n // 2))
            self.check(f, take.matrix(f, 10, 10, 0, 40))

    def test_all_small_matrices(self):
        for f, n in ((F2, 2), (F3, 2), (F2, 3)):
            for a in all_small(f, n, n):
                self.check(f, a)
                self.assertEqual(determinant(f, a), by_permutations(f, a))

    def test_rows_that_must_change_places(self):
        for order in permutations(range(4)):
            for f in (Q, F2, F7):
                a = part(identity(f, 4), list(order), [0, 1, 2, 3])
                self.check(f, a)
                self.assertEqual(determinant(f, a), by_permutations(f, a))
                self.check(f, diagonal(f, [zero_matrix(f, 1, 1), a]))

    def test_sign(self):
        self.assertEqual([sign(()), sign((0,)), sign((0, 1)), sign((1, 0))], [1, 1, 1, -1])
        for n in range(6):
            for order in permutations(range(n)):
                many = sum(order[i] > order[j] for i in range(n) for j in range(i, n))
                self.assertEqual(sign(order), 1 - 2 * (many % 2))

    def test_determinants(self):
        take = Sample(111)
        for f in FIELDS:
            self.assertEqual(determinant(f, (0, 0, ())), one(f))
            for n in (1, 2, 3, 4, 5):
                a, b = take.matrix(f, n, n, 0, 40), take.matrix(f, n, n)
                self.assertEqual(determinant(f, a), by_permutations(f, a))
                both = multiply(f, determinant(f, a), determinant(f, b))
                self.assertEqual(determinant(f, times(f, a, b)), both)
                self.assertEqual(determinant(f, transposed(a)), determinant(f, a))
            self.assertEqual(determinant(f, of_rank(take, f, 6, 6, 5)), zero(f))
        self.assertEqual(determinant(Q, fractions((1, 2), (3, 4))), (-2, 1))

    def test_matrices_that_are_not_square(self):
        for f in FIELDS:
            for a in (zero_matrix(f, 1, 2), zero_matrix(f, 2, 1), (0, 1, ()), (1, 0, ((),))):
                for call in (split, determinant, inverted):
                    with self.assertRaises(ShapeError):
                        call(f, a)


class ErrorsTest(unittest.TestCase):
    """Point 6: DomainError comes ahead of ShapeError, and this ahead of SingularError."""

    def test_domain_error_comes_first(self):
        wide, empty, single = (1, 2, ((0, 0),)), (0, 0, ()), (1, 1, ((0,),))
        for f in NO_DOMAINS + EUCLIDEAN:
            for a in (wide, empty, single):
                for call in (reduce, rank, kernel, inverted, split, determinant, column_basis, factors):
                    with self.assertRaises(DomainError):
                        call(f, a)
                for call in (solve, refute):
                    for b in ((), (0,), (0, 0)):
                        with self.assertRaises(DomainError):
                            call(f, a, b)

    def test_shape_error_comes_before_singular_error(self):
        for f in FIELDS:
            for m, n in ((1, 2), (3, 2), (0, 1), (1, 0)):
                with self.assertRaises(ShapeError):
                    inverted(f, zero_matrix(f, m, n))


class ArgumentsTest(unittest.TestCase):
    """Point 2: arguments stay as they were, and calls do not depend on earlier ones."""

    def test_lists_stay_as_they_were(self):
        rows = [[1, 0], [1, 1]]
        a = matrix(F2, rows, 2)
        first = reduce(F2, a), kernel(F2, a), split(F2, a), inverted(F2, a), determinant(F2, a)
        self.assertEqual(rows, [[1, 0], [1, 1]])
        again = reduce(F2, a), kernel(F2, a), split(F2, a), inverted(F2, a), determinant(F2, a)
        self.assertEqual(first, again)

    def test_a_matrix_beside_its_inverse(self):
        a = fractions((2, 1), (1, 1))
        both = beside(a, inverted(Q, a))
        self.assertEqual(reduce(Q, beside(a, identity(Q, 2)))[0],
                         beside(identity(Q, 2), part(both, [0, 1], [2, 3])))


if __name__ == "__main__":
    unittest.main()
