"""Points 104 to 107: the Frobenius form and similarity."""

import unittest
from itertools import product

from echelon.domains import divide, from_integer, is_element, multiply, negate, one, zero
from echelon.elimination import rank
from echelon.errors import DomainError, ShapeError
from echelon.euclid import invariants
from echelon.frobenius import difference, frobenius, invariant_factors, similarity
from echelon.matrices import (
    change, diagonal, evaluated, identity, is_matrix, minus, part, scaled, times, zero_matrix,
)
from echelon.operators import characteristic, companion, minimal
from tests.sample import EUCLIDEAN, FIELDS, NO_DOMAINS, Sample
from tests.test_operators import all_small, block, fractions, mixed, samples, whole

Q = ("Q",)
F2 = ("F", 2)
F3 = ("F", 3)
F7 = ("F", 7)


def blocks_of(f, *pairs):
    """The matrix with blocks of these values and sizes along the diagonal."""
    return diagonal(f, [block(f, from_integer(f, x), k) for x, k in pairs])


def by_smith_form(f, a):
    """The invariant factors as those of x less the matrix, which are not one."""
    d = ("P", f)
    x = scaled(d, (zero(f), one(f)), identity(d, a[0]))
    return tuple(g for g in invariants(d, minus(d, x, change(f, d, a))) if len(g) > 1)


class FormTest(unittest.TestCase):
    """What is looked at in all answers."""

    def check(self, f, a):
        n = a[0]
        d = ("P", f)
        factors = invariant_factors(f, a)
        self.assertIs(type(factors), tuple)
        total = one(d)
        for g in factors:
            self.assertTrue(is_element(d, g))
            self.assertEqual(g[-1], one(f))
            self.assertGreaterEqual(len(g), 2)
            total = multiply(d, total, g)
        for g, h in zip(factors, factors[1:]):
            self.assertEqual(divide(d, h, g)[1], ())
        self.assertEqual(total, characteristic(f, a))
        self.assertEqual(factors[-1] if factors else one(d), minimal(f, a))
        answer = frobenius(f, a)
        self.assertIs(type(answer), tuple)
        c, t, s = answer
        for b in answer:
            self.assertTrue(is_matrix(f, b))
            self.assertEqual(b[:2], (n, n))
        self.assertEqual(c, diagonal(f, [companion(f, g) for g in factors]))
        self.assertEqual(times(f, a, t), times(f, t, c))
        self.assertEqual(times(f, t, s), identity(f, n))
        return factors


class FrobeniusTest(FormTest):
    """Points 104 and 105."""

    def test_samples(self):
        for f, a in samples(181, 8):
            factors = self.check(f, a)
            if a[0] < 5:
                self.assertEqual(factors, by_smith_form(f, a))

    def test_all_small_matrices(self):
        for p, n in ((2, 2), (2, 3), (3, 2)):
            for a in all_small(p, n):
                self.check(("F", p), a)

    def test_known_factors(self):
        for f in FIELDS:
            x = from_integer(f, 3)
            linear = (negate(f, x), one(f))
            self.assertEqual(self.check(f, (0, 0, ())), ())
            self.assertEqual(frobenius(f, (0, 0, ())), ((0, 0, ()),) * 3)
            self.assertEqual(self.check(f, scaled(f, x, identity(f, 4))), (linear,) * 4)
            self.assertEqual(self.check(f, zero_matrix(f, 2, 2)), ((zero(f), one(f)),) * 2)
            nilpotent = blocks_of(f, (0, 1), (0, 3), (0, 2))
            powers = tuple((zero(f),) * k + (one(f),) for k in (1, 2, 3))
            self.assertEqual(self.check(f, nilpotent), powers)
        self.assertEqual(self.check(Q, fractions((1, 2), (3, 4))), (whole(-2, -5, 1),))
        self.assertEqual(self.check(Q, blocks_of(Q, (1, 1), (2, 1), (2, 1))), (whole(-2, 1), whole(2, -3, 1)))
        twice = (4, 4, ((0, 1, 0, 0), (1, 1, 0, 0), (0, 0, 0, 1), (0, 0, 1, 1)))
        self.assertEqual(self.check(F2, twice), ((1, 1, 1), (1, 1, 1)))

    def test_chosen_factors(self):
        take = Sample(182)
        for f in FIELDS:
            d = ("P", f)
            for sizes in ((1, 1), (2, 0), (1, 0, 2), (1, 1, 1), (0, 3), (2, 0, 0)):
                factors = []
                g = one(d)
                for size in sizes:
                    g = multiply(d, g, take.polynomial(f, size, 1)[:-1] + (one(f),))
                    if len(g) > 1:
                        factors.append(g)
                a = diagonal(f, [companion(f, g) for g in factors])
                self.assertEqual(self.check(f, mixed(f, take, a)), tuple(factors))

    def test_large_matrices(self):
        take = Sample(183)
        for f in FIELDS:
            a = take.matrix(f, 11, 11, 0, 1)
            self.check(f, part(a, list(range(10)), list(range(10))))
            self.check(f, a)
            corner = part(a, [0, 1, 2, 3, 4], [0, 1, 2, 3, 4])
            self.check(f, mixed(f, take, diagonal(f, [corner, corner])))
        numbers = [[(take.signed(40), 1) for _ in range(10)] for _ in range(10)]
        self.check(Q, (10, 10, tuple(tuple(row) for row in numbers)))
        self.check(Q, take.matrix(Q, 4, 4, 0, 40))


class SimilarityTest(FormTest):
    """Points 106 and 107."""

    def check_pair(self, f, a, b):
        answer, g = similarity(f, a, b), difference(f, a, b)
        self.assertEqual([answer, g].count(None), 1)
        if answer is not None:
            t, s = answer
            self.assertTrue(is_matrix(f, t))
            self.assertTrue(is_matrix(f, s))
            self.assertEqual(times(f, a, t), times(f, t, b))
            self.assertEqual(times(f, t, s), identity(f, a[0]))
        else:
            self.assertTrue(is_element(("P", f), g))
            self.assertIn(len(g) - 1, range(1, a[0] + 1))
            self.assertNotEqual(rank(f, evaluated(f, g, a)), rank(f, evaluated(f, g, b)))
        return answer is not None

    def test_similar(self):
        take = Sample(184)
        for f, a in samples(185, 4):
            self.assertTrue(self.check_pair(f, a, a))
            self.assertTrue(self.check_pair(f, mixed(f, take, a), a))
            self.assertTrue(self.check_pair(f, a, frobenius(f, a)[0]))

    def test_any_pairs(self):
        take = Sample(186)
        for f in FIELDS:
            for n in (1, 2, 3, 4):
                for _ in range(6):
                    a, b = take.matrix(f, n, n, 0, 1), take.matrix(f, n, n, 0, 1)
                    same = by_smith_form(f, a) == by_smith_form(f, b)
                    self.assertEqual(self.check_pair(f, a, b), same)

    def test_all_small_pairs(self):
        every = list(all_small(2, 2))
        units = [t for t in every if rank(F2, t) == 2]
        for a, b in product(every, every):
            same = any(times(F2, a, t) == times(F2, t, b) for t in units)
            self.assertEqual(self.check_pair(F2, a, b), same)

    def test_equal_polynomials_and_still_not_similar(self):
        for f in FIELDS:
            a = blocks_of(f, (0, 2), (0, 2))
            b = blocks_of(f, (0, 2), (0, 1), (0, 1))
            self.assertEqual(characteristic(f, a), characteristic(f, b))
            self.assertEqual(minimal(f, a), minimal(f, b))
            self.assertFalse(self.check_pair(f, a, b))
            self.assertFalse(self.check_pair(f, b, a))
            a = blocks_of(f, (1, 3), (1, 3), (1, 1), (0, 2))
            b = blocks_of(f, (1, 3), (1, 2), (1, 2), (0, 2))
            self.assertEqual(characteristic(f, a), characteristic(f, b))
            self.assertEqual(minimal(f, a), minimal(f, b))
            self.assertFalse(self.check_pair(f, a, b))
            self.assertFalse(self.check_pair(f, b, a))

    def test_one_polynomial_divides_the_other(self):
        for f in FIELDS:
            for first, second in (([(0, 2)], [(0, 1), (0, 1)]), ([(0, 3)], [(0, 1), (0, 2)]),
                                  ([(0, 1), (1, 1)], [(0, 1), (0, 1)]),
                                  ([(0, 2), (1, 1)], [(0, 1), (1, 2)])):
                a, b = blocks_of(f, *first), blocks_of(f, *second)
                self.assertFalse(self.check_pair(f, a, b))
                self.assertFalse(self.check_pair(f, b, a))

    def test_large_pairs(self):
        take = Sample(187)
        for f in FIELDS:
            corner = take.matrix(f, 5, 5, 0, 1)
            a = mixed(f, take, diagonal(f, [corner, corner]))
            self.assertTrue(self.check_pair(f, a, mixed(f, take, a)))
            self.assertFalse(self.check_pair(f, a, take.matrix(f, 10, 10, 0, 1)))

    def test_without_rows(self):
        for f in FIELDS:
            self.assertEqual(similarity(f, (0, 0, ()), (0, 0, ())), ((0, 0, ()), (0, 0, ())))
            self.assertIsNone(difference(f, (0, 0, ()), (0, 0, ())))


class ErrorsTest(unittest.TestCase):
    """Point 6: DomainError comes ahead of ShapeError."""

    def test_sizes(self):
        for f in FIELDS:
            for a in (zero_matrix(f, 1, 2), zero_matrix(f, 3, 2), (0, 1, ()), (1, 0, ((),))):
                for call in (invariant_factors, frobenius):
                    with self.assertRaises(ShapeError):
                        call(f, a)
                for call in (similarity, difference):
                    for b in (a, identity(f, 1), (0, 0, ())):
                        with self.assertRaises(ShapeError):
                            call(f, a, b)
                        with self.assertRaises(ShapeError):
                            call(f, b, a)
            for call in (similarity, difference):
                with self.assertRaises(ShapeError):
                    call(f, identity(f, 2), identity(f, 3))
                with self.assertRaises(ShapeError):
                    call(f, identity(f, 1), (0, 0, ()))

    def test_domains(self):
        for f in NO_DOMAINS + EUCLIDEAN:
            for a in ((0, 0, ()), (1, 1, ((0,),)), (1, 2, ((0, 0),))):
                for call in (invariant_factors, frobenius):
                    with self.assertRaises(DomainError):
                        call(f, a)
                for call in (similarity, difference):
                    for b in (a, (0, 0, ())):
                        with self.assertRaises(DomainError):
                            call(f, a, b)


if __name__ == "__main__":
    unittest.main()
