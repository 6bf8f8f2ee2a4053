"""Points 2, 3, 6 and 15: domains, their elements and their arithmetic."""

import unittest
from fractions import Fraction

from echelon.domains import (
    add, from_integer, inverse, is_domain, is_element, multiply, negate, one, power, subtract, zero,
)
from echelon.errors import DomainError, EchelonError
from tests.sample import DOMAINS, FIELDS, NO_DOMAINS, POLYNOMIALS, Sample

Z = ("Z",)
Q = ("Q",)
F7 = ("F", 7)
PQ = ("P", Q)
P7 = ("P", F7)
BIG = 10 ** 40


def value(f, x):
    """A number that stands for an element of a field, for sums and products by Python alone."""
    return Fraction(*x) if f == Q else x


def at(f, a, x):
    """The value of a polynomial at a number."""
    total = sum(value(f, c) * x ** k for k, c in enumerate(a))
    return total if f == Q else total % f[1]


class DomainTest(unittest.TestCase):
    """Points 2, 3 and 15: is_domain."""

    def test_all_domains(self):
        for d in DOMAINS:
            self.assertIs(is_domain(d), True)

    def test_all_prime_moduli(self):
        primes = [n for n in range(2, 700) if all(n % k for k in range(2, n))]
        for p in range(-3, 700):
            self.assertIs(is_domain(("F", p)), p in primes)
            self.assertIs(is_domain(("P", ("F", p))), p in primes)

    def test_large_moduli(self):
        for p in (65479, 65497, 65519, 65521):
            self.assertIs(is_domain(("F", p)), True)
        for p in (65520, 65523, 65537, 65539, 2 ** 31 - 1, 2 ** 61 - 1, 10 ** 40 + 121):
            self.assertIs(is_domain(("F", p)), False)

    def test_no_domains(self):
        for d in NO_DOMAINS:
            self.assertIs(is_domain(d), False, d)

    def test_deep_values(self):
        d = Q
        for _ in range(500):
            d = ("P", d)
        self.assertIs(is_domain(d), False)
        d = ()
        for _ in range(500):
            d = (d,)
        self.assertIs(is_domain(d), False)
        for e in DOMAINS:
            self.assertIs(is_element(e, d), False)


class ElementTest(unittest.TestCase):
    """Points 2, 3, 6 and 15: is_element."""

    def check(self, d, good, bad):
        for x in good:
            self.assertIs(is_element(d, x), True, (d, x))
        for x in bad + [None, True, False, "", "0", "1", "x", [], [0], [0, 1], [1], [(1, 1)]]:
            self.assertIs(is_element(d, x), False, (d, x))

    def test_integers(self):
        self.check(Z, [0, 1, -1, 7, BIG, -BIG, 10 ** 45], [(), (0,), (1, 1), (0, 1), ((1, 1),)])

    def test_fractions(self):
        good = [(0, 1), (1, 1), (-1, 1), (1, 2), (-3, 2), (BIG, BIG + 1), (-BIG, 3), (2, 1)]
        bad = [(0, 2), (0, 0), (0, -1), (1, 0), (2, 2), (2, 4), (-2, 4), (1, -2), (-1, -2),
               (BIG, 10), (1, BIG * 0), (1,), (), (1, 2, 1), 0, 1, -1, (1, "2"), ("1", 2),
               (1, None), (None, 1), (True, 1), (1, True), (False, 1), (0, True), (True, True),
               ((1, 2), 1), (1, (2, 1)), ((1, 2),), ((1, 2), (1, 1)), ([1], 2), [1, 2]]
        self.check(Q, good, bad)

    def test_prime_fields(self):
        self.check(("F", 2), [0, 1], [2, -1, (), (0,), (0, 1)])
        self.check(F7, list(range(7)), [7, 8, -1, -7, BIG, (), (0,), (1, 2), (1, 1)])
        self.check(("F", 65521), [0, 65520], [65521, -1, 65522])

    def test_polynomials_over_fractions(self):
        good = [(), ((1, 1),), ((-1, 2),), ((0, 1), (1, 1)), ((0, 1),) * 30 + ((BIG, 7),)]
        bad = [((0, 1),), ((1, 1), (0, 1)), ((2, 2),), ((0, 2), (1, 1)), ((1, -1),), (1,), (0, 1),
               (1, 1), (1, 2), 0, 1, ((1, 1), 1), ((1, 1), None), ((True, 1),), ((1, True),),
               (((1, 1),),), ((),), ([1, 1],), ((1, 1), (1, 0)), ((0, True),)]
        self.check(PQ, good, bad)

    def test_polynomials_over_prime_fields(self):
        good = [(), (1,), (6,), (0, 1), (0,) * 30 + (3,), (6, 0, 6)]
        bad = [(0,), (1, 0), (0, 0), (7,), (1, 7), (7, 1), (-1, 1), (1, -1), 0, 1, 6, (True,),
               (0, True), (False, 1), (None,), ("1",), ((1,),), ((1, 1),), (1, (1,)), ((),)]
        self.check(P7, good, bad)

    def test_no_domain(self):
        for d in NO_DOMAINS:
            for x in (0, (0, 1), (), None, True, "Z", [], d):
                with self.assertRaises(DomainError):
                    is_element(d, x)
        with self.assertRaises(EchelonError):
            is_element(None, 0)
        with self.assertRaises(ValueError):
            is_element(("F", 6), 0)


class ArithmeticTest(unittest.TestCase):
    """Point 15: the arithmetic of all domains."""

    def test_zero_and_one(self):
        self.assertEqual([zero(d) for d in (Z, Q, F7, PQ, P7)], [0, (0, 1), 0, (), ()])
        self.assertEqual([one(d) for d in (Z, Q, F7, PQ, P7)], [1, (1, 1), 1, ((1, 1),), (1,)])

    def test_rules(self):
        take = Sample(11)
        for d in DOMAINS:
            for _ in range(60):
                x, y, z = take.one_of(d), take.one_of(d), take.one_of(d)
                answers = [add(d, x, y), subtract(d, x, y), negate(d, x), multiply(d, x, y)]
                for answer in answers:
                    self.assertTrue(is_element(d, answer), (d, answer))
                self.assertEqual(add(d, x, y), add(d, y, x))
                self.assertEqual(multiply(d, x, y), multiply(d, y, x))
                self.assertEqual(add(d, add(d, x, y), z), add(d, x, add(d, y, z)))
                self.assertEqual(multiply(d, multiply(d, x, y), z), multiply(d, x, multiply(d, y, z)))
                both = add(d, multiply(d, x, z), multiply(d, y, z))
                self.assertEqual(multiply(d, add(d, x, y), z), both)
                self.assertEqual(add(d, x, zero(d)), x)
                self.assertEqual(multiply(d, x, one(d)), x)
                self.assertEqual(multiply(d, x, zero(d)), zero(d))
                self.assertEqual(add(d, x, negate(d, x)), zero(d))
                self.assertEqual(subtract(d, x, x), zero(d))
                self.assertEqual(add(d, subtract(d, x, y), y), x)
                self.assertEqual(subtract(d, zero(d), x), negate(d, x))

    def test_numbers(self):
        take = Sample(12)
        for digits in (1, 3, 40, 45):
            for _ in range(60):
                x, y = take.signed(digits), take.signed(digits)
                self.assertEqual(add(Z, x, y), x + y)
                self.assertEqual(subtract(Z, x, y), x - y)
                self.assertEqual(multiply(Z, x, y), x * y)
                self.assertEqual(negate(Z, x), -x)
        for f in FIELDS:
            for _ in range(60):
                x, y = take.number(f, 40), take.number(f, 40)
                a, b = value(f, x), value(f, y)
                for answer, expected in ((add(f, x, y), a + b), (subtract(f, x, y), a - b),
                                         (multiply(f, x, y), a * b), (negate(f, x), -a)):
                    wanted = expected if f == Q else expected % f[1]
                    self.assertEqual(value(f, answer), wanted)
                    self.assertTrue(is_element(f, answer))

    def test_polynomials(self):
        take = Sample(13)
        for d in POLYNOMIALS:
            f = d[1]
            for degree, digits in ((2, 1), (5, 40), (30, 3)):
                a = take.polynomial(f, degree, digits)
                for other in (-1, 0, 1, degree, degree + 1):
                    b = take.polynomial(f, other, digits)
                    answers = add(d, a, b), subtract(d, a, b), multiply(d, a, b), negate(d, a)
                    for answer in answers:
                        self.assertTrue(is_element(d, answer))
                    for x in range(3):
                        s, t = at(f, a, x), at(f, b, x)
                        for answer, wanted in zip(answers, (s + t, s - t, s * t, -s)):
                            expected = wanted if f == Q else wanted % f[1]
                            self.assertEqual(at(f, answer, x), expected)
                    self.assertEqual(len(multiply(d, a, b)), degree + len(b) if b else 0)

    def test_last_coefficients_that_vanish(self):
        self.assertEqual(add(P7, (1, 2, 3), (1, 2, 4)), (2, 4))
        self.assertEqual(add(P7, (0, 0, 3), (0, 0, 4)), ())
        self.assertEqual(subtract(P7, (1, 2, 3), (0, 2, 3)), (1,))
        self.assertEqual(add(P7, (6,), (1,)), ())
        half, less = (1, 2), (-1, 2)
        self.assertEqual(add(PQ, (half, half), (half, less)), ((1, 1),))
        self.assertEqual(subtract(PQ, (half, half), (half, half)), ())

    def test_known_products(self):
        self.assertEqual(multiply(P7, (6, 1), (1, 1)), (6, 0, 1))
        self.assertEqual(multiply(PQ, ((1, 2), (1, 3)), ((-2, 1), (3, 1))), ((-1, 1), (5, 6), (1, 1)))

    def test_results_are_plain(self):
        for d in DOMAINS:
            for x in (zero(d), one(d), add(d, one(d), one(d)), from_integer(d, 5)):
                self.assertTrue(is_element(d, x))
                self.assertIs(type(x), int if d[0] in "ZF" else tuple)

    def test_answers_do_not_depend_on_earlier_calls(self):
        take = Sample(14)
        for d in DOMAINS:
            x, y = take.one_of(d), take.one_of(d)
            first = add(d, x, y), multiply(d, x, y), subtract(d, y, x)
            self.assertEqual(first, (add(d, x, y), multiply(d, x, y), subtract(d, y, x)))


class FromIntegerTest(unittest.TestCase):
    """Point 15: from_integer."""

    def test_known_values(self):
        self.assertEqual([from_integer(Z, n) for n in (0, -3, BIG)], [0, -3, BIG])
        self.assertEqual([from_integer(Q, n) for n in (0, -3, 8)], [(0, 1), (-3, 1), (8, 1)])
        self.assertEqual([from_integer(F7, n) for n in (0, -3, 7, 8, -7)], [0, 4, 0, 1, 0])
        self.assertEqual([from_integer(PQ, n) for n in (0, -3)], [(), ((-3, 1),)])
        self.assertEqual([from_integer(P7, n) for n in (0, -3, 14, 15)], [(), (4,), (), (1,)])

    def test_rules(self):
        take = Sample(15)
        for d in DOMAINS:
            self.assertEqual(from_integer(d, 0), zero(d))
            self.assertEqual(from_integer(d, 1), one(d))
            self.assertEqual(from_integer(d, -1), negate(d, one(d)))
            for digits in (1, 2, 40, 45):
                m, n = take.signed(digits), take.signed(digits)
                x, y = from_integer(d, m), from_integer(d, n)
                self.assertTrue(is_element(d, x))
                self.assertEqual(from_integer(d, m + n), add(d, x, y))
                self.assertEqual(from_integer(d, m * n), multiply(d, x, y))


class PowerTest(unittest.TestCase):
    """Point 15: power."""

    def test_all_exponents(self):
        take = Sample(16)
        for d in DOMAINS:
            x = take.one_of(d, 2, 1)
            expected = one(d)
            for k in range(61):
                self.assertEqual(power(d, x, k), expected)
                expected = multiply(d, expected, x)
            self.assertEqual(power(d, x, 64), multiply(d, power(d, x, 60), power(d, x, 4)))

    def test_zero_exponent(self):
        for d in DOMAINS:
            self.assertEqual(power(d, zero(d), 0), one(d))
            self.assertEqual(power(d, one(d), 0), one(d))

    def test_zero_and_one(self):
        for d in DOMAINS:
            for k in (1, 2, 59, 60):
                self.assertEqual(power(d, zero(d), k), zero(d))
                self.assertEqual(power(d, one(d), k), one(d))

    def test_known_values(self):
        self.assertEqual(power(Z, -2, 60), 2 ** 60)
        self.assertEqual(power(Z, BIG, 60), BIG ** 60)
        self.assertEqual(power(Q, (-2, 3), 3), (-8, 27))
        self.assertEqual(power(F7, 3, 6), 1)
        self.assertEqual(power(("P", ("F", 2)), (1, 1), 32), (1,) + (0,) * 31 + (1,))
        self.assertEqual(power(PQ, ((1, 1), (1, 1)), 3), ((1, 1), (3, 1), (3, 1), (1, 1)))

    def test_large_polynomials(self):
        take = Sample(17)
        for d in POLYNOMIALS:
            a = take.polynomial(d[1], 30, 1)
            answer = power(d, a, 60)
            self.assertEqual(len(answer), 1801)
            self.assertTrue(is_element(d, answer))
            for x in (1, -1):
                wanted = at(d[1], a, x) ** 60
                expected = wanted if d == PQ else wanted % d[1][1]
                self.assertEqual(at(d[1], answer, x), expected)

    def test_power_of_inverse(self):
        self.assertEqual(multiply(Q, power(Q, (3, 7), 60), power(Q, inverse(Q, (3, 7)), 60)), (1, 1))


if __name__ == "__main__":
    unittest.main()
