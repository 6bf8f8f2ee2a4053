"""Points 60 to 64: normal forms and determinants over Euclidean domains."""

import unittest
from itertools import combinations, permutations

from echelon.domains import divide, greatest, multiply, negate, normal, one, zero
from echelon.errors import DomainError, ShapeError
from echelon.euclid import determinant_of, hermite, invariants, smith
from echelon.hermites import hermite_table
from echelon.matrices import (
    diagonal, identity, is_matrix, part, times, transposed, zero_matrix,
)
from tests.sample import EUCLIDEAN, FIELDS, NO_DOMAINS, POLYNOMIALS, Sample, by_permutations

Z = ("Z",)
Q = ("Q",)
PQ = ("P", Q)
P2 = ("P", ("F", 2))
P7 = ("P", ("F", 7))
BIG = 10 ** 40


def integers(*rows):
    """The matrix over the integers with these rows, of which there is at least one."""
    return len(rows), len(rows[0]), tuple(rows)


def whole(*numbers):
    """The polynomial over the fractions with these integers as its coefficients."""
    return tuple((n, 1) for n in numbers)


def along(d, *entries):
    """The square matrix with these entries on its diagonal."""
    return diagonal(d, [(1, 1, ((x,),)) for x in entries])


def of_rank(take, d, m, n, r, degree=2, digits=1):
    """A product of two matrices; its rank is mostly r."""
    return times(d, take.matrix(d, m, r, degree, digits), take.matrix(d, r, n, degree, digits))


def rests(d, row):
    """The row as a list of entries."""
    return [x != zero(d) for x in row]


class FormTest(unittest.TestCase):
    """What is looked at in all answers."""

    def look_at_hermite_form(self, d, h):
        places = []
        for i, row in enumerate(h[2]):
            marks = rests(d, row)
            if not any(marks):
                self.assertFalse(any(any(rests(d, other)) for other in h[2][i:]))
                break
            at = marks.index(True)
            self.assertTrue(not places or at > places[-1])
            places.append(at)
            self.assertEqual(normal(d, row[at])[0], row[at])
            for k, other in enumerate(h[2]):
                if k < i:
                    self.assertEqual(divide(d, other[at], row[at])[1], other[at])
                if k > i:
                    self.assertEqual(other[at], zero(d))

    def check_hermite(self, d, a):
        answer = hermite(d, a)
        self.assertIs(type(answer), tuple)
        h, u, v = answer
        for b, size in ((h, a[:2]), (u, (a[0], a[0])), (v, (a[0], a[0]))):
            self.assertTrue(is_matrix(d, b))
            self.assertEqual(b[:2], size)
        self.look_at_hermite_form(d, h)
        self.assertEqual(times(d, u, a), h)
        self.assertEqual(times(d, u, v), identity(d, a[0]))
        return h

    def check_smith(self, d, a):
        answer = smith(d, a)
        self.assertIs(type(answer), tuple)
        s, u, v, x, y = answer
        m, n = a[:2]
        for b, size in ((s, (m, n)), (u, (m, m)), (v, (n, n)), (x, (m, m)), (y, (n, n))):
            self.assertTrue(is_matrix(d, b))
            self.assertEqual(b[:2], size)
        self.assertEqual(times(d, times(d, u, a), v), s)
        self.assertEqual(times(d, u, x), identity(d, m))
        self.assertEqual(times(d, v, y), identity(d, n))
        for i in range(m):
            for j in range(n):
                if i != j:
                    self.assertEqual(s[2][i][j], zero(d))
        entries = [s[2][k][k] for k in range(min(m, n))]
        for p in entries:
            self.assertEqual(normal(d, p)[0], p)
        for p, q in zip(entries, entries[1:]):
            if p == zero(d):
                self.assertEqual(q, p)
            else:
                self.assertEqual(divide(d, q, p)[1], zero(d))
        self.assertEqual(invariants(d, a), tuple(p for p in entries if p != zero(d)))
        return entries


class HermiteTest(FormTest):
    """Points 60 and 61."""

    def test_small_matrices(self):
        take = Sample(121)
        for d in EUCLIDEAN:
            for m, n in take.sizes(16, 4):
                for degree in (0, 2):
                    self.check_hermite(d, take.matrix(d, m, n, degree, 1))
                self.check_hermite(d, of_rank(take, d, m, n, max(0, min(m, n) - 1)))
                self.check_hermite(d, zero_matrix(d, m, n))

    def test_known_forms(self):
        h, u, v = hermite(Z, integers((2, 3, 6), (4, 4, 4)))
        self.assertEqual(h, integers((2, 1, -2), (0, 2, 8)))
        self.assertEqual(times(Z, u, v), identity(Z, 2))
        for a, h in ((integers((-3,)), integers((3,))), (integers((0, -5)), integers((0, 5))),
                     (integers((4,), (6,)), integers((2,), (0,))),
                     (integers((0, 0), (0, 3)), integers((0, 3), (0, 0))),
                     (integers((1, -1), (0, 2)), integers((1, 1), (0, 2))),
                     (integers((1, 7), (0, -2)), integers((1, 1), (0, 2))),
                     (integers((1, 2), (3, 4)), integers((1, 0), (0, 2))),
                     (integers((2, 5), (2, 5)), integers((2, 5), (0, 0))),
                     (integers((BIG, 1), (0, -BIG)), integers((BIG, 1), (0, BIG)))):
            self.assertEqual(self.check_hermite(Z, a), h)
        a = (2, 1, ((whole(-1, 0, 1),), (whole(-2, 2),)))
        self.assertEqual(self.check_hermite(PQ, a), (2, 1, ((whole(-1, 1),), ((),))))
        a = (2, 2, (((3,), (0, 0, 1)), ((), (1, 2))))
        self.assertEqual(self.check_hermite(P7, a), (2, 2, (((1,), (3,)), ((), (4, 1)))))

    def test_without_rows_or_columns(self):
        for d in EUCLIDEAN:
            for n in (0, 1, 3):
                self.assertEqual(hermite(d, (0, n, ())), ((0, n, ()), (0, 0, ()), (0, 0, ())))
                self.check_hermite(d, (n, 0, ((),) * n))

    def test_the_form_does_not_depend_on_the_rows(self):
        take = Sample(122)
        for d in EUCLIDEAN:
            for m, n in ((2, 2), (3, 4), (4, 3), (4, 4), (3, 1)):
                for a in (take.matrix(d, m, n, 2, 2), of_rank(take, d, m, n, 2)):
                    h = hermite(d, a)[0]
                    self.assertEqual(hermite(d, times(d, take.mixing(d, m), a))[0], h)
                    self.assertEqual(hermite(d, h)[0], h)
                    turned = part(a, list(range(m))[::-1], list(range(n)))
                    self.assertEqual(hermite(d, turned)[0], h)

    def test_entries_above_pivots(self):
        for above in (-BIG, -7, -1, 0, 1, 4, 5, 6, BIG):
            h = self.check_hermite(Z, integers((1, above), (0, -5)))
            self.assertEqual(h, integers((1, above % 5), (0, 5)))
            h = self.check_hermite(Z, integers((1, 3, above), (0, 1, above + 1), (0, 0, 5)))
            self.assertEqual(h, integers((1, 0, (-2 * above - 3) % 5), (0, 1, (above + 1) % 5), (0, 0, 5)))

    def test_long_integers(self):
        take = Sample(123)
        for m, n in ((10, 10), (11, 4), (4, 11), (10, 1), (1, 10)):
            self.check_hermite(Z, take.matrix(Z, m, n, 0, 40))
        for r in (1, 5, 9):
            self.check_hermite(Z, of_rank(take, Z, 10, 10, r, 0, 20))

    def test_large_polynomials(self):
        take = Sample(124)
        for d in POLYNOMIALS[1:]:
            for m, n in ((5, 5), (5, 3), (3, 5), (6, 5)):
                self.check_hermite(d, take.matrix(d, m, n, 6, 1))
            self.check_hermite(d, of_rank(take, d, 5, 5, 3, 3))
        self.check_hermite(PQ, take.matrix(PQ, 5, 5, 6, 1))
        self.check_hermite(PQ, take.matrix(PQ, 3, 3, 3, 5))
        self.check_hermite(PQ, take.matrix(PQ, 2, 2, 2, 40))
        self.check_hermite(PQ, of_rank(take, PQ, 5, 5, 3, 3))

    def test_numbers_stay_small(self):
        # The rows of the transformation are rows of a Hermite form themselves.
        take = Sample(125)
        u = hermite(Z, take.matrix(Z, 10, 3, 0, 40))[1]
        self.assertLess(max(abs(x) for row in u[2] for x in row), 10 ** 130)


class SmithTest(FormTest):
    """Points 62 and 63."""

    def test_small_matrices(self):
        take = Sample(126)
        for d in EUCLIDEAN:
            for m, n in take.sizes(16, 4):
                for degree in (0, 2):
                    self.check_smith(d, take.matrix(d, m, n, degree, 1))
                self.check_smith(d, of_rank(take, d, m, n, max(0, min(m, n) - 1)))
                self.check_smith(d, zero_matrix(d, m, n))

    def test_known_forms(self):
        for a, entries in ((along(Z, 2, 3), [1, 6]), (along(Z, 4, 6), [2, 12]), (along(Z, 0, -5), [5, 0]),
                           (along(Z, 6, 10, 15), [1, 30, 30]), (along(Z, 0, 0), [0, 0]),
                           (along(Z, 8, 4, 2, 1), [1, 2, 4, 8]), (integers((0, 0), (0, 3)), [3, 0]),
                           (integers((2, 4, 4), (-6, 6, 12), (10, -4, -16)), [2, 6, 12]),
                           (integers((6, 4)), [2]), (integers((6,), (4,)), [2]),
                           (integers((1, BIG), (0, 1)), [1, 1]), (integers((-BIG,)), [BIG])):
            self.assertEqual(self.check_smith(Z, a), entries)
        x = whole(0, 1)
        self.assertEqual(self.check_smith(PQ, along(PQ, whole(0, 2), whole(3, 3))),
                         [whole(1), whole(0, 1, 1)])
        self.assertEqual(self.check_smith(PQ, along(PQ, whole(0, 0, 5), x)), [x, whole(0, 0, 1)])
        self.assertEqual(invariants(PQ, along(PQ, (), whole(7))), (whole(1),))

    def test_without_rows_or_columns(self):
        for d in EUCLIDEAN:
            for n in (0, 1, 3):
                for a in ((0, n, ()), (n, 0, ((),) * n)):
                    self.assertEqual(self.check_smith(d, a), [])
                    self.assertEqual(invariants(d, a), ())

    def test_greatest_common_divisors_of_minors(self):
        take = Sample(127)
        for d in EUCLIDEAN:
            for m, n in ((2, 2), (2, 3), (3, 3), (4, 2)):
                for a in (take.matrix(d, m, n, 1, 1), of_rank(take, d, m, n, 2, 1, 1)):
                    entries = self.check_smith(d, a)
                    product = one(d)
                    for k in range(1, min(m, n) + 1):
                        product = multiply(d, product, entries[k - 1])
                        shared = zero(d)
                        for rows in combinations(range(m), k):
                            for columns in combinations(range(n), k):
                                minor = by_permutations(d, part(a, list(rows), list(columns)))
                                shared = greatest(d, shared, minor)[0]
                        self.assertEqual(product, shared)

    def test_the_form_does_not_depend_on_rows_and_columns(self):
        take = Sample(128)
        for d in EUCLIDEAN:
            for entries in ([2, 2, 6], [1, 4, 0], [3, 0, 0]):
                values = [normal(d, x)[0] for x in (take.one_of(d, 1, 1), take.one_of(d, 1, 1))]
                chain = [one(d), values[0], multiply(d, values[0], values[1])]
                chain = [x for x in chain if x != zero(d)]
                chain = (chain + [zero(d)] * 3)[:3] if d != Z else entries
                a = times(d, times(d, take.mixing(d, 3), along(d, *chain)), take.mixing(d, 3))
                self.assertEqual(self.check_smith(d, a), chain)
                self.assertEqual(self.check_smith(d, transposed(a)), chain)

    def test_long_integers(self):
        take = Sample(129)
        for m, n in ((10, 10), (11, 4), (4, 11), (10, 1), (1, 10)):
            self.check_smith(Z, take.matrix(Z, m, n, 0, 40))
        for r in (1, 5, 9):
            self.check_smith(Z, of_rank(take, Z, 10, 10, r, 0, 20))
        chain = [1, 2, 2, 6, 12, 12, 60, 0, 0, 0]
        a = times(Z, times(Z, take.mixing(Z, 10, 60), along(Z, *chain)), take.mixing(Z, 10, 60))
        self.assertEqual(self.check_smith(Z, a), chain)

    def test_large_polynomials(self):
        take = Sample(130)
        for d in POLYNOMIALS[1:]:
            for m, n in ((5, 5), (5, 3), (3, 5)):
                self.check_smith(d, take.matrix(d, m, n, 6, 1))
            self.check_smith(d, of_rank(take, d, 5, 5, 3, 3))
        self.check_smith(PQ, take.matrix(PQ, 5, 5, 6, 1))
        self.check_smith(PQ, take.matrix(PQ, 2, 2, 2, 40))
        self.check_smith(PQ, of_rank(take, PQ, 5, 5, 3, 2))


class DeterminantTest(unittest.TestCase):
    """Point 64."""

    def test_sums_over_permutations(self):
        take = Sample(131)
        for d in EUCLIDEAN:
            for n in (0, 1, 2, 3, 4):
                for degree, digits in ((0, 1), (2, 2), (6, 40)):
                    a = take.matrix(d, n, n, degree, digits)
                    self.assertEqual(determinant_of(d, a), by_permutations(d, a))

    def test_products(self):
        take = Sample(132)
        for d in EUCLIDEAN:
            n = 10 if d == Z else 5
            a, b = take.matrix(d, n, n, 2, 40), take.matrix(d, n, n, 6, 2)
            both = multiply(d, determinant_of(d, a), determinant_of(d, b))
            self.assertEqual(determinant_of(d, times(d, a, b)), both)
            self.assertEqual(determinant_of(d, transposed(a)), determinant_of(d, a))
            self.assertEqual(determinant_of(d, of_rank(take, d, n, n, n - 1)), zero(d))
            self.assertIn(determinant_of(d, take.mixing(d, n)), (one(d), negate(d, one(d))))

    def test_rows_that_must_change_places(self):
        for order in permutations(range(4)):
            for d in (Z, PQ, P2, P7):
                a = part(identity(d, 4), list(order), [0, 1, 2, 3])
                self.assertEqual(determinant_of(d, a), by_permutations(d, a))

    def test_known_determinants(self):
        for d in EUCLIDEAN:
            self.assertEqual(determinant_of(d, (0, 0, ())), one(d))
            self.assertEqual(determinant_of(d, zero_matrix(d, 3, 3)), zero(d))
        self.assertEqual(determinant_of(Z, integers((1, 2), (3, 4))), -2)
        self.assertEqual(determinant_of(Z, integers((0, BIG), (BIG, 0))), -BIG * BIG)
        a = (2, 2, ((whole(0, 1), whole(1)), (whole(1), ((0, 1), (1, 2)))))
        self.assertEqual(determinant_of(PQ, a), ((-1, 1), (0, 1), (1, 2)))
        a = (2, 2, (((0, 1), (1,)), ((1,), (0, 1))))
        self.assertEqual(determinant_of(P2, a), (1, 0, 1))

    def test_matrices_that_are_not_square(self):
        for d in EUCLIDEAN:
            for a in ((0, 1, ()), (1, 0, ((),)), zero_matrix(d, 1, 2), zero_matrix(d, 3, 2)):
                with self.assertRaises(ShapeError):
                    determinant_of(d, a)


class ErrorsTest(unittest.TestCase):
    """Point 6: wrong domains, ahead of wrong sizes."""

    def test_wrong_domains(self):
        for d in NO_DOMAINS + FIELDS:
            for a in ((0, 0, ()), (1, 1, ((0,),)), (1, 2, ((0, 0),)), (0, 1, ()), (1, 1, (((),),))):
                for call in (hermite, smith, invariants, determinant_of):
                    with self.assertRaises(DomainError):
                        call(d, a)


class TableTest(unittest.TestCase):
    """The inner side: rows that depend on others leave no trace."""

    def test_dependent_rows(self):
        rows = [[2, 4], [3, 6], [1, 2], [0, 0]]
        self.assertEqual(hermite_table(Z, rows, 2), [[1, 2], []])
        self.assertEqual(rows, [[2, 4], [3, 6], [1, 2], [0, 0]])
        self.assertEqual(hermite_table(Z, [], 2), [[], []])
        self.assertEqual(hermite_table(Z, [[0, -3]], 2), [[], [0, 3]])


if __name__ == "__main__":
    unittest.main()
