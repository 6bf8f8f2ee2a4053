"""The first look of the judge at products, and wrong claims that would take too long without it."""

import unittest

from echelon.domains import multiply
from echelon.images import PRIME, image_of, may_be_product, may_divide
from echelon.matrices import identity, times
from echelon.numbers import is_prime
from tests.claims import F7, P7, PQ, Q, Z, ClaimTest
from tests.sample import Sample


class ImagesTest(unittest.TestCase):
    def test_the_number_is_a_prime(self):
        self.assertEqual(PRIME, 2 ** 61 - 1)
        self.assertTrue(is_prime(61))
        # Lucas and Lehmer.
        s = 4
        for _ in range(59):
            s = (s * s - 2) % PRIME
        self.assertEqual(s, 0)

    def test_images(self):
        for x, image in (((1, 2), (PRIME + 1) // 2), ((-1, 1), PRIME - 1),
                         ((PRIME, 1), 0), ((1, PRIME), None), ((0, 1), 0)):
            self.assertEqual(image_of(Q, x), image)
        self.assertEqual(image_of(PQ, ()), 0)
        self.assertEqual(image_of(PQ, ((3, 1),)), 3)
        self.assertIsNone(image_of(PQ, ((3, 1), (1, PRIME))))

    def test_right_products_are_never_refused(self):
        take = Sample(301)
        for d in (Q, PQ, Z, F7, P7):
            for m, k, n in ((2, 3, 2), (1, 1, 1), (0, 2, 3), (2, 0, 3), (3, 3, 0), (4, 4, 4)):
                for digits in (1, 40):
                    a, b = take.matrix(d, m, k, 3, digits), take.matrix(d, k, n, 3, digits)
                    self.assertTrue(may_be_product(d, (a, b), times(d, a, b)))
                    c = take.matrix(d, n, 2, 3, digits)
                    self.assertTrue(may_be_product(d, (a, b, c), times(d, times(d, a, b), c)))

    def test_wrong_products_are_refused(self):
        take = Sample(302)
        for d in (Q, PQ):
            for n in (1, 2, 4):
                a, b = take.matrix(d, n, n, 3, 2), take.matrix(d, n, n, 3, 2)
                c = times(d, a, b)
                one = identity(d, 1)[2][0][0]
                rows = [list(row) for row in c[2]]
                rows[0][0] = one if rows[0][0] != one else multiply(d, one, ((5, 1),) if d == PQ else (5, 1))
                self.assertFalse(may_be_product(d, (a, b), (n, n, tuple(tuple(row) for row in rows))))

    def test_denominators_that_the_prime_divides(self):
        a = (1, 1, (((1, PRIME),),))
        self.assertTrue(may_be_product(Q, (a, a), identity(Q, 1)))
        self.assertTrue(may_divide(PQ, ((1, PRIME), (1, 1)), ((1, 1), (1, 1))))
        self.assertTrue(may_divide(PQ, ((1, 1), (PRIME, 1)), ((1, 1), (1, 1))))

    def test_divisors(self):
        take = Sample(303)
        for _ in range(30):
            x, y = take.polynomial(Q, take.below(5), 3), take.polynomial(Q, take.below(5), 3)
            self.assertTrue(may_divide(PQ, x, multiply(PQ, x, y)))
            if len(x) > 1:
                self.assertFalse(may_divide(PQ, x, multiply(PQ, x, y)[:-1] + ((10 ** 9 + 7, 3),)))


class LongClaimsTest(ClaimTest):
    def test_the_prime_in_claims(self):
        for x, y in (((PRIME, 1), (1, PRIME)), ((PRIME, 2), (2, PRIME)), ((PRIME + 1, PRIME), (PRIME, PRIME + 1))):
            a, b = (1, 1, ((x,),)), (1, 1, ((y,),))
            self.accept(("inverse", Q, a, b))
            self.accept(("inverse", Q, b, a))
            self.reject(("inverse", Q, a, a))
            self.reject(("inverse", Q, a, (1, 1, (((y[0] * 3, y[1]) if y[1] % 3 else (y[0], y[1] // 3),),))))
        # Alike modulo the prime, and not in truth.
        a = (1, 1, (((PRIME + 1, 1),),))
        self.assertTrue(may_be_product(Q, (a, a), identity(Q, 1)))
        self.reject(("inverse", Q, a, a))
        self.reject(("solution", Q, a, ((1, 1),), ((1, 1),)))
        x = ((PRIME, 1), (1, 1))
        self.reject(("smith", PQ) + ((2, 2, ((x, ()), ((), ((0, 1), (1, 1))))),) * 2 + (identity(PQ, 2),) * 4)
        self.accept(("smith", PQ) + ((2, 2, ((x, ()), ((), multiply(PQ, x, x)))),) * 2 + (identity(PQ, 2),) * 4)

    def test_wrong_claims_with_long_products(self):
        take = Sample(304)
        q, g = take.polynomial(Q, 2000, 12), take.polynomial(Q, 2000, 12)[:-1] + ((1, 1),)
        x = take.polynomial(Q, 4000, 12)
        self.reject(("greatest", PQ, x, x, g, q, q, q, q))
        a = (1, 1, ((q,),))
        self.reject(("hermite", PQ, (1, 1, ((x,),)), (1, 1, ((g,),)), a, a))
        self.reject(("smith", PQ) + ((2, 2, ((g, ()), ((), g[5:]))),) * 2 + (identity(PQ, 2),) * 4)

    def test_long_rows_that_are_not_reduced(self):
        take = Sample(305)
        a = take.matrix(Z, 40, 40, 0, 200)
        unit = identity(Z, 40)
        self.reject(("reduced", a, a, unit, unit))
        self.reject(("shortest", a, a[2][0], a, unit, unit, unit[2][0]))


if __name__ == "__main__":
    unittest.main()
