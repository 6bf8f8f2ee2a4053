"""Points 6 and 16 to 18: inverses, division and greatest common divisors."""

import math
import unittest

from echelon.domains import (
    add, divide, greatest, inverse, is_element, multiply, negate, normal, one, quotient, zero,
)
from echelon.errors import DomainError, EchelonError, SingularError
from tests.sample import EUCLIDEAN, FIELDS, NO_DOMAINS, POLYNOMIALS, Sample

Z = ("Z",)
Q = ("Q",)
F7 = ("F", 7)
PQ = ("P", Q)
P7 = ("P", F7)
BIG = 10 ** 40


def whole(*numbers):
    """The polynomial over the fractions with these integers as its coefficients."""
    return tuple((n, 1) for n in numbers)


class FieldTest(unittest.TestCase):
    """Point 16."""

    def test_all_elements_of_small_fields(self):
        for p in (2, 3, 5, 7, 31):
            f = ("F", p)
            for y in range(1, p):
                self.assertTrue(is_element(f, inverse(f, y)))
                self.assertEqual(y * inverse(f, y) % p, 1)
                for x in range(p):
                    self.assertTrue(is_element(f, quotient(f, x, y)))
                    self.assertEqual(quotient(f, x, y) * y % p, x)

    def test_known_fractions(self):
        self.assertEqual(inverse(Q, (-2, 3)), (-3, 2))
        self.assertEqual(inverse(Q, (5, 1)), (1, 5))
        self.assertEqual(inverse(Q, (-1, BIG)), (-BIG, 1))
        self.assertEqual(quotient(Q, (1, 2), (-3, 4)), (-2, 3))
        self.assertEqual(quotient(Q, (0, 1), (-3, 4)), (0, 1))

    def test_rules(self):
        take = Sample(21)
        for f in FIELDS:
            for _ in range(80):
                x, y = take.number(f, 40), take.number(f, 40)
                if y != zero(f):
                    self.assertTrue(is_element(f, inverse(f, y)))
                    self.assertEqual(multiply(f, y, inverse(f, y)), one(f))
                    self.assertTrue(is_element(f, quotient(f, x, y)))
                    self.assertEqual(multiply(f, y, quotient(f, x, y)), x)

    def test_zero(self):
        for f in FIELDS:
            with self.assertRaises(SingularError):
                inverse(f, zero(f))
            for x in (zero(f), one(f)):
                with self.assertRaises(SingularError):
                    quotient(f, x, zero(f))

    def test_no_field(self):
        for f in NO_DOMAINS + EUCLIDEAN:
            for x in (0, 1, (0, 1), (1, 1), ()):
                with self.assertRaises(DomainError):
                    inverse(f, x)
                with self.assertRaises(DomainError):
                    quotient(f, x, x)

    def test_errors_have_the_base_class(self):
        for kind in (EchelonError, ValueError):
            with self.assertRaises(kind):
                inverse(Q, (0, 1))
            with self.assertRaises(kind):
                quotient(F7, 1, 0)
            with self.assertRaises(kind):
                inverse(Z, 1)


class DivideTest(unittest.TestCase):
    """Point 17."""

    def check(self, d, x, y):
        answer = divide(d, x, y)
        self.assertIs(type(answer), tuple)
        q, r = answer
        self.assertTrue(is_element(d, q))
        self.assertTrue(is_element(d, r))
        self.assertEqual(add(d, multiply(d, q, y), r), x)
        if d == Z:
            self.assertGreaterEqual(r, 0)
            self.assertLess(r, abs(y))
        else:
            self.assertLess(len(r), len(y))

    def test_small_integers(self):
        for x in range(-40, 41):
            for y in range(-12, 13):
                if y:
                    self.check(Z, x, y)
        self.assertEqual(divide(Z, -7, 2), (-4, 1))
        self.assertEqual(divide(Z, 7, -2), (-3, 1))
        self.assertEqual(divide(Z, -7, -2), (4, 1))

    def test_long_integers(self):
        take = Sample(22)
        for _ in range(100):
            x, y, z = take.signed(45), take.signed(30), take.signed(40)
            if y:
                self.check(Z, x, y)
                self.check(Z, y * z, y)
                self.check(Z, y, x * y - 1)

    def test_small_polynomials(self):
        take = Sample(23)
        for d in POLYNOMIALS:
            for m in range(-1, 6):
                for n in range(6):
                    a, b = take.polynomial(d[1], m, 2), take.polynomial(d[1], n, 2)
                    self.check(d, a, b)
                    self.check(d, multiply(d, a, b), b)
                    self.check(d, add(d, multiply(d, a, b), one(d)), b)

    def test_large_polynomials(self):
        take = Sample(24)
        for d in POLYNOMIALS:
            for m, n, digits in ((30, 0, 40), (30, 1, 40), (30, 15, 10), (30, 29, 40), (30, 30, 40),
                                 (15, 30, 40), (32, 7, 10)):
                a, b = take.polynomial(d[1], m, digits), take.polynomial(d[1], n, digits)
                self.check(d, a, b)

    def test_known_polynomials(self):
        self.assertEqual(divide(P7, (1, 0, 3), (2, 1)), ((1, 3), (6,)))
        self.assertEqual(divide(P7, (1, 0, 3), (3,)), ((5, 0, 1), ()))
        self.assertEqual(divide(P7, (3,), (1, 1)), ((), (3,)))
        self.assertEqual(divide(PQ, whole(1, 0, 1), whole(0, 2)), (((0, 1), (1, 2)), whole(1)))
        self.assertEqual(divide(PQ, (), whole(0, 2)), ((), ()))
        self.assertEqual(divide(PQ, whole(-1, 0, 0, 1), whole(-1, 1)), (whole(1, 1, 1), ()))

    def test_zero(self):
        for d in EUCLIDEAN:
            for x in (zero(d), one(d)):
                with self.assertRaises(SingularError):
                    divide(d, x, zero(d))

    def test_wrong_domains(self):
        for d in NO_DOMAINS + FIELDS:
            for x in (0, 1, (0, 1), (1, 1), ()):
                with self.assertRaises(DomainError):
                    divide(d, x, x)


class NormalTest(unittest.TestCase):
    """Point 18: normal."""

    def test_integers(self):
        for x in range(-20, 21):
            self.assertEqual(normal(Z, x), (abs(x), -1 if x < 0 else 1))
        self.assertEqual(normal(Z, -BIG), (BIG, -1))

    def test_zero(self):
        for d in EUCLIDEAN:
            self.assertEqual(normal(d, zero(d)), (zero(d), one(d)))

    def test_known_polynomials(self):
        self.assertEqual(normal(PQ, whole(4, 0, -2)), (whole(-2, 0, 1), ((-1, 2),)))
        self.assertEqual(normal(PQ, ((3, 5),)), (whole(1), ((5, 3),)))
        self.assertEqual(normal(P7, (1, 3)), ((5, 1), (5,)))
        self.assertEqual(normal(P7, (6, 1)), ((6, 1), (1,)))

    def test_polynomials(self):
        take = Sample(25)
        for d in POLYNOMIALS:
            for degree in (0, 1, 2, 6, 30):
                x = take.polynomial(d[1], degree, 40)
                y, u = normal(d, x)
                self.assertTrue(is_element(d, y))
                self.assertTrue(is_element(d, u))
                self.assertEqual(len(u), 1)
                self.assertEqual(multiply(d, u, x), y)
                self.assertEqual(y[-1], one(d[1]))
                self.assertEqual(normal(d, y), (y, one(d)))

    def test_wrong_domains(self):
        for d in NO_DOMAINS + FIELDS:
            for x in (0, 1, (0, 1), (1, 1), ()):
                with self.assertRaises(DomainError):
                    normal(d, x)


class GreatestTest(unittest.TestCase):
    """Point 18: greatest."""

    def check(self, d, x, y):
        answer = greatest(d, x, y)
        self.assertIs(type(answer), tuple)
        self.assertEqual(len(answer), 3)
        for part in answer:
            self.assertTrue(is_element(d, part))
        g, s, t = answer
        self.assertEqual(add(d, multiply(d, s, x), multiply(d, t, y)), g)
        self.assertEqual(normal(d, g)[0], g)
        # g divides both; by the equation above all common divisors divide g.
        if g == zero(d):
            self.assertEqual((x, y), (zero(d), zero(d)))
        else:
            self.assertEqual(divide(d, x, g)[1], zero(d))
            self.assertEqual(divide(d, y, g)[1], zero(d))
        return g

    def test_integers(self):
        for x in range(-30, 31):
            for y in range(-30, 31):
                self.assertEqual(self.check(Z, x, y), math.gcd(x, y))

    def test_long_integers(self):
        take = Sample(26)
        for _ in range(100):
            x, y, z = take.signed(45), take.signed(40), take.signed(20)
            self.assertEqual(self.check(Z, x * z, y * z), math.gcd(x, y) * abs(z))

    def test_zeros(self):
        take = Sample(27)
        for d in EUCLIDEAN:
            self.assertEqual(self.check(d, zero(d), zero(d)), zero(d))
            for _ in range(10):
                x = take.one_of(d)
                self.assertEqual(self.check(d, x, zero(d)), normal(d, x)[0])
                self.assertEqual(self.check(d, zero(d), x), normal(d, x)[0])

    def test_constants(self):
        take = Sample(28)
        for d in POLYNOMIALS:
            for degree in (0, 1, 5):
                c, x = take.polynomial(d[1], 0, 3), take.polynomial(d[1], degree, 3)
                self.assertEqual(self.check(d, c, x), one(d))
                self.assertEqual(self.check(d, x, c), one(d))

    def test_equal_and_opposite(self):
        take = Sample(29)
        for d in EUCLIDEAN:
            for _ in range(10):
                x = take.one_of(d)
                self.assertEqual(self.check(d, x, x), normal(d, x)[0])
                self.assertEqual(self.check(d, x, negate(d, x)), normal(d, x)[0])

    def test_common_factors(self):
        take = Sample(30)
        for d in POLYNOMIALS:
            for _ in range(40):
                x, y, z = take.one_of(d), take.one_of(d), take.one_of(d)
                g = self.check(d, x, y)
                shared = self.check(d, multiply(d, x, z), multiply(d, y, z))
                self.assertEqual(shared, normal(d, multiply(d, g, z))[0])

    def test_known_polynomials(self):
        a = multiply(PQ, whole(-1, 1), whole(2, 3))
        b = multiply(PQ, whole(-1, 1), whole(5, -7))
        self.assertEqual(self.check(PQ, a, b), whole(-1, 1))
        self.assertEqual(self.check(PQ, whole(-1, 0, 1), whole(1, 0, 1)), whole(1))
        self.assertEqual(self.check(P7, (6, 0, 1), (1, 2, 1)), (1, 1))
        self.assertEqual(self.check(("P", ("F", 2)), (1, 0, 1), (0, 1, 1)), (1, 1))

    def test_large_polynomials(self):
        take = Sample(31)
        for d in POLYNOMIALS:
            for m, n, digits in ((30, 30, 1), (30, 20, 2), (5, 30, 4), (5, 4, 40)):
                x, y = take.polynomial(d[1], m, digits), take.polynomial(d[1], n, digits)
                self.check(d, x, y)
            z = take.polynomial(d[1], 10, 2)
            x, y = take.polynomial(d[1], 20, 2), take.polynomial(d[1], 20, 2)
            self.assertGreaterEqual(len(self.check(d, multiply(d, x, z), multiply(d, y, z))), 11)

    def test_wrong_domains(self):
        for d in NO_DOMAINS + FIELDS:
            for x in (0, 1, (0, 1), (1, 1), ()):
                with self.assertRaises(DomainError):
                    greatest(d, x, x)


if __name__ == "__main__":
    unittest.main()
