"""Points 100 to 103: characteristic and minimal polynomials."""

import unittest
from itertools import combinations, product

from echelon.domains import (
    add, divide, from_integer, is_element, negate, normal, one, zero,
)
from echelon.elimination import inverted, rank
from echelon.errors import DomainError, ShapeError
from echelon.matrices import (
    applied, diagonal, evaluated, identity, is_matrix, part, scaled, times, trace, transposed,
    zero_matrix,
)
from echelon.operators import (
    annihilator, are_independent, characteristic, companion, cyclic_vector, interpolated, krylov,
    minimal,
)
from tests.sample import EUCLIDEAN, FIELDS, NO_DOMAINS, Sample, by_permutations

Q = ("Q",)
F2 = ("F", 2)
F3 = ("F", 3)
F7 = ("F", 7)


def whole(*numbers):
    """The polynomial over the fractions with these integers as its coefficients."""
    return tuple((n, 1) for n in numbers)


def fractions(*rows):
    """The matrix over the fractions with these integers as its entries."""
    return len(rows), len(rows[0]), tuple(whole(*row) for row in rows)


def block(f, x, k):
    """The matrix with x on the diagonal and ones directly above it."""
    return k, k, tuple(tuple(x if i == j else one(f) if i + 1 == j else zero(f) for j in range(k))
                       for i in range(k))


def all_small(p, n):
    for numbers in product(range(p), repeat=n * n):
        yield n, n, tuple(numbers[i * n:i * n + n] for i in range(n))


def by_minors(f, a):
    """The characteristic polynomial by the sums of the minors along the diagonal."""
    n = a[0]
    out = []
    for k in range(n, -1, -1):
        total = zero(f)
        for rows in combinations(range(n), k):
            total = add(f, total, by_permutations(f, part(a, list(rows), list(rows))))
        out.append(negate(f, total) if k % 2 else total)
    return tuple(out)


def samples(start, many=12, largest=5):
    """Square matrices of all kinds: any ones, nilpotent, scalar, with equal blocks."""
    take = Sample(start)
    for f in FIELDS:
        for n in range(largest + 1):
            for _ in range(many // 4):
                yield f, take.matrix(f, n, n, 0, 1)
        for n in (1, 2, 3):
            yield f, zero_matrix(f, n, n)
            yield f, scaled(f, take.number(f, 2), identity(f, n))
            yield f, block(f, zero(f), n)
            a = take.matrix(f, n, n, 0, 1)
            x = take.number(f, 1)
            for blocks in ([a, a], [block(f, x, n), block(f, x, 1)], [a, identity(f, 2)],
                           [block(f, x, 2), block(f, x, 2), block(f, one(f), n)]):
                yield f, mixed(f, take, diagonal(f, blocks))


def mixed(f, take, a):
    """A matrix that is similar to a."""
    t = take.mixing(f, a[0])
    return times(f, times(f, inverted(f, t), a), t)


class CharacteristicTest(unittest.TestCase):
    """Point 100."""

    def test_sums_of_minors(self):
        for f, a in samples(161):
            g = characteristic(f, a)
            self.assertTrue(is_element(("P", f), g))
            self.assertEqual(g, by_minors(f, a))
            self.assertEqual((g[-1], len(g)), (one(f), a[0] + 1))
            self.assertEqual(evaluated(f, g, a), zero_matrix(f, a[0], a[0]))

    def test_all_small_matrices(self):
        for p, n in ((2, 3), (3, 2)):
            for a in all_small(p, n):
                self.assertEqual(characteristic(("F", p), a), by_minors(("F", p), a))

    def test_known_polynomials(self):
        for f in FIELDS:
            self.assertEqual(characteristic(f, (0, 0, ())), (one(f),))
            self.assertEqual(characteristic(f, (1, 1, ((one(f),),))), (from_integer(f, -1), one(f)))
        self.assertEqual(characteristic(Q, fractions((1, 2), (3, 4))), whole(-2, -5, 1))
        self.assertEqual(characteristic(F2, (3, 3, ((1, 0, 0), (0, 1, 0), (0, 0, 1)))), (1, 1, 1, 1))

    def test_large_matrices(self):
        take = Sample(162)
        for f in FIELDS:
            for n in (10, 12):
                a = take.matrix(f, n, n, 0, 40)
                g = characteristic(f, a)
                self.assertEqual(g[-2], negate(f, trace(f, a)))
                self.assertEqual(characteristic(f, transposed(a)), g)
            a = take.matrix(f, 10, 10, 0, 1)
            g = characteristic(f, a)
            self.assertEqual(evaluated(f, g, a), zero_matrix(f, 10, 10))
            self.assertEqual(characteristic(f, mixed(f, take, a)), g)

    def test_interpolated(self):
        for numbers in ([5], [0, 1], [3, -1, 4, 1, -5, 9], [0, 0, 0], [-7, 0, 0, 0, 2]):
            values = [sum(c * x ** k for k, c in enumerate(numbers)) for x in range(len(numbers))]
            self.assertEqual(interpolated(values), numbers)


class AnnihilatorTest(unittest.TestCase):
    """Point 101."""

    def check(self, f, a, v):
        g = annihilator(f, a, v)
        self.assertTrue(is_element(("P", f), g))
        self.assertEqual(g[-1], one(f))
        self.assertEqual(applied(f, evaluated(f, g, a), v), (zero(f),) * a[0])
        k = krylov(f, a, v)
        self.assertTrue(is_matrix(f, k))
        self.assertEqual(k[:2], (a[0], len(g) - 1))
        # No polynomial of a lower degree takes v to zero: the columns are independent.
        self.assertEqual(rank(f, k), len(g) - 1)
        moved = v
        for column in transposed(k)[2]:
            self.assertEqual(column, moved)
            moved = applied(f, a, moved)
        return g

    def test_samples(self):
        take = Sample(163)
        for f, a in samples(164):
            n = a[0]
            self.assertEqual(self.check(f, a, (zero(f),) * n), (one(f),))
            for w in identity(f, n)[2] + (take.vector(f, n),):
                self.check(f, a, w)

    def test_known_annihilators(self):
        a = fractions((2, 0), (0, 3))
        self.assertEqual(self.check(Q, a, whole(1, 0)), whole(-2, 1))
        self.assertEqual(self.check(Q, a, whole(5, 7)), whole(6, -5, 1))
        self.assertEqual(self.check(Q, (0, 0, ()), ()), whole(1))
        self.assertEqual(krylov(Q, a, whole(0, 0)), (2, 0, ((), ())))
        self.assertEqual(krylov(Q, a, whole(0, 1)), fractions((0,), (1,)))
        self.assertEqual(self.check(F3, block(F3, 0, 3), (0, 0, 1)), (0, 0, 0, 1))
        half = (2, 2, (((1, 2), (0, 1)), ((1, 1), (1, 3))))
        self.assertEqual(self.check(Q, half, whole(0, 3)), ((-1, 3), (1, 1)))
        self.assertEqual(self.check(Q, half, whole(1, 6)), ((-1, 2), (1, 1)))
        self.assertEqual(self.check(Q, half, whole(3, 0)), ((1, 6), (-5, 6), (1, 1)))

    def test_large_matrices(self):
        take = Sample(165)
        for f in FIELDS:
            for digits in (1, 10):
                a, v = take.matrix(f, 10, 10, 0, digits), take.vector(f, 10)
                self.check(f, a, v)
                self.check(f, mixed(f, take, diagonal(f, [part(a, [0, 1, 2], [0, 1, 2])] * 3)), v[:9])

    def test_independent_rows(self):
        p = 2 ** 61 - 1
        self.assertTrue(are_independent([]))
        self.assertTrue(are_independent([[1, 2], [3, 4]]))
        self.assertFalse(are_independent([[1, 2], [2, 4]]))
        # These are independent, which is not seen modulo the prime: there is another way.
        self.assertFalse(are_independent([[1, p], [0, p]]))
        a = (2, 2, (((1, 1), (p, 1)), ((p, 1), (0, 1))))
        self.assertEqual(self.check(Q, a, whole(1, 0)), ((-p * p, 1), (-1, 1), (1, 1)))

    def test_errors(self):
        for call in (annihilator, krylov):
            for a, v in ((zero_matrix(F7, 1, 2), (0,)), ((0, 1, ()), ()), (identity(F7, 2), ()),
                         (identity(F7, 2), (0,)), (identity(F7, 2), (0, 0, 0))):
                with self.assertRaises(ShapeError):
                    call(F7, a, v)
                for f in NO_DOMAINS + EUCLIDEAN:
                    with self.assertRaises(DomainError):
                        call(f, a, v)


class MinimalTest(unittest.TestCase):
    """Point 102."""

    def check(self, f, a):
        n = a[0]
        m = minimal(f, a)
        self.assertTrue(is_element(("P", f), m))
        self.assertEqual(m[-1], one(f))
        self.assertEqual(evaluated(f, m, a), zero_matrix(f, n, n))
        v = cyclic_vector(f, a)
        self.assertTrue(is_matrix(f, (1, n, (v,))))
        # As the annihilator of a vector has this degree, no polynomial of a lower one will do.
        self.assertEqual(annihilator(f, a, v), m)
        self.assertEqual(rank(f, krylov(f, a, v)), len(m) - 1)
        self.assertEqual(divide(("P", f), characteristic(f, a), m)[1], ())
        return m

    def test_samples(self):
        for f, a in samples(166):
            self.check(f, a)

    def test_all_small_matrices(self):
        for p, n in ((2, 2), (2, 3), (3, 2)):
            for a in all_small(p, n):
                self.check(("F", p), a)

    def test_known_polynomials(self):
        for f in FIELDS:
            x = from_integer(f, 5)
            self.assertEqual(self.check(f, (0, 0, ())), (one(f),))
            self.assertEqual(cyclic_vector(f, (0, 0, ())), ())
            self.assertEqual(self.check(f, zero_matrix(f, 3, 3)), (zero(f), one(f)))
            self.assertEqual(self.check(f, scaled(f, x, identity(f, 4))), (negate(f, x), one(f)))
            self.assertEqual(self.check(f, block(f, zero(f), 4)), (zero(f),) * 4 + (one(f),))
        self.assertEqual(self.check(Q, diagonal(Q, [fractions((k % 4,)) for k in range(9)])),
                         whole(0, -6, 11, -6, 1))
        self.assertEqual(self.check(F2, diagonal(F2, [block(F2, 1, 2), block(F2, 0, 3), block(F2, 1, 1)])),
                         (0, 0, 0, 1, 0, 1))

    def test_parts_that_share_factors(self):
        # Each unit vector takes another power of the same factors.
        for f in (Q, F2, F3, F7):
            for sizes in ((3, 1), (1, 3), (2, 2), (2, 3)):
                for others in ((1, 2), (2, 1), (3, 1)):
                    blocks = [block(f, zero(f), sizes[0]), block(f, one(f), others[0]),
                              block(f, zero(f), sizes[1]), block(f, one(f), others[1])]
                    m = self.check(f, diagonal(f, blocks))
                    self.assertEqual(len(m) - 1, max(sizes) + max(others))

    def test_large_matrices(self):
        take = Sample(167)
        for f in FIELDS:
            a = take.matrix(f, 10, 10, 0, 2)
            self.check(f, a)
            corner = part(a, [0, 1, 2, 3, 4], [0, 1, 2, 3, 4])
            m = self.check(f, mixed(f, take, diagonal(f, [corner, corner])))
            self.assertEqual(m, minimal(f, corner))
        a = take.matrix(Q, 8, 8, 0, 40)
        self.assertEqual(minimal(Q, a), characteristic(Q, a))

    def test_errors(self):
        for a in (zero_matrix(F7, 1, 2), zero_matrix(F7, 3, 2), (0, 1, ()), (1, 0, ((),))):
            for call in (characteristic, minimal, cyclic_vector):
                with self.assertRaises(ShapeError):
                    call(F7, a)
        for f in NO_DOMAINS + EUCLIDEAN:
            for a in ((0, 0, ()), (1, 1, ((0,),)), (1, 2, ((0, 0),))):
                for call in (characteristic, minimal, cyclic_vector):
                    with self.assertRaises(DomainError):
                        call(f, a)


class CompanionTest(unittest.TestCase):
    """Point 103."""

    def test_known_matrices(self):
        self.assertEqual(companion(Q, whole(2, 3, 5, 1)), fractions((0, 0, -2), (1, 0, -3), (0, 1, -5)))
        self.assertEqual(companion(F7, (2, 1)), (1, 1, ((5,),)))
        self.assertEqual(companion(F7, (0, 1)), (1, 1, ((0,),)))
        self.assertEqual(companion(F2, (1, 1, 1)), (2, 2, ((0, 1), (1, 1))))
        self.assertEqual(companion(Q, ((-1, 2), (1, 1))), (1, 1, (((1, 2),),)))

    def test_polynomials(self):
        take = Sample(168)
        for f in FIELDS:
            for n in (1, 2, 3, 6, 10):
                g = normal(("P", f), take.polynomial(f, n, 10))[0]
                a = companion(f, g)
                self.assertTrue(is_matrix(f, a))
                self.assertEqual(characteristic(f, a), g)
                self.assertEqual(minimal(f, a), g)

    def test_wrong_domains(self):
        for f in NO_DOMAINS + EUCLIDEAN:
            for g in ((0, 1), whole(0, 1), (1,)):
                with self.assertRaises(DomainError):
                    companion(f, g)


if __name__ == "__main__":
    unittest.main()
