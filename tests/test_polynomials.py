"""Points 20 to 22: polynomials over a field."""

import unittest

from echelon.coefficients import convolved, without_content
from echelon.divisors import exact, shared, shared_by_prime
from echelon.domains import (
    add, divide, from_integer, greatest, is_element, multiply, normal, one, power, zero,
)
from echelon.errors import DomainError
from echelon.polynomials import (
    compose, degree, derivative, evaluate, make, power_modulo, square_free,
)
from tests.sample import EUCLIDEAN, FIELDS, NO_DOMAINS, Sample

Z = ("Z",)
Q = ("Q",)
F2 = ("F", 2)
F3 = ("F", 3)
F7 = ("F", 7)
PQ = ("P", Q)
BIG = 10 ** 40


def whole(*numbers):
    """The polynomial over the fractions with these integers as its coefficients."""
    return tuple((n, 1) for n in numbers)


def value(f, a, x):
    """The value of a polynomial, by the sum of its terms."""
    total = zero(f)
    for k, c in enumerate(a):
        term = c
        for _ in range(k):
            term = multiply(f, term, x)
        total = add(f, total, term)
    return total


def points(f, take):
    """Some elements of a field, all of them if it is small."""
    if f[0] == "F" and f[1] < 8:
        return list(range(f[1]))
    return [zero(f), one(f)] + [take.number(f, 3) for _ in range(3)]


class BasicsTest(unittest.TestCase):
    """Point 20."""

    def test_degree(self):
        self.assertEqual([degree(a) for a in ((), (1,), (0, 1), whole(0, 0, 5))], [-1, 0, 1, 2])
        self.assertEqual(degree((0,) * 30 + (4,)), 30)

    def test_make(self):
        self.assertEqual(make(F7, []), ())
        self.assertEqual(make(F7, [0, 0, 0]), ())
        self.assertEqual(make(F7, [0, 3, 0, 6]), (0, 3, 0, 6))
        self.assertEqual(make(F7, [0, 3, 0, 0]), (0, 3))
        self.assertEqual(make(Q, [(1, 2), (0, 1), (-3, 4), (0, 1)]), ((1, 2), (0, 1), (-3, 4)))
        self.assertEqual(make(Q, [(0, 1)]), ())

    def test_make_leaves_the_list_as_it_was(self):
        for f, listed in ((F7, [0, 3, 0, 0]), (Q, [(1, 2), (0, 1)])):
            before = list(listed)
            made = make(f, listed)
            self.assertEqual(listed, before)
            listed.append(zero(f))
            self.assertIs(type(made), tuple)
            self.assertTrue(is_element(("P", f), made))

    def test_values(self):
        take = Sample(51)
        for f in FIELDS:
            for size in (-1, 0, 1, 2, 5, 30):
                a = take.polynomial(f, size, 3)
                for x in points(f, take):
                    answer = evaluate(f, a, x)
                    self.assertTrue(is_element(f, answer))
                    self.assertEqual(answer, value(f, a, x))

    def test_long_values(self):
        take = Sample(52)
        for f in FIELDS:
            a, x = take.polynomial(f, 30, 40), take.number(f, 40)
            self.assertEqual(evaluate(f, a, x), value(f, a, x))
        self.assertEqual(evaluate(Q, whole(-BIG, 1), (BIG, 1)), (0, 1))
        self.assertEqual(evaluate(Q, whole(1, 0, 4), (-1, 2)), (2, 1))
        self.assertEqual(evaluate(F7, (1, 2, 3), 5), 2)

    def test_known_derivatives(self):
        self.assertEqual(derivative(Q, whole(5, 4, 3, 2)), whole(4, 6, 6))
        self.assertEqual(derivative(Q, ((1, 2), (1, 3), (3, 4))), ((1, 3), (3, 2)))
        self.assertEqual(derivative(Q, whole(5)), ())
        self.assertEqual(derivative(F7, ()), ())
        self.assertEqual(derivative(F3, (1, 2, 1, 2)), (2, 2))
        self.assertEqual(derivative(F3, (1, 0, 0, 2, 0, 0, 1)), ())
        self.assertEqual(derivative(F2, (0, 1, 1)), (1,))
        self.assertEqual(derivative(F2, (0, 0, 1, 1)), (0, 0, 1))

    def test_rules_of_derivatives(self):
        take = Sample(53)
        for f in FIELDS:
            d = ("P", f)
            for _ in range(20):
                a, b = take.polynomial(f, take.between(-1, 8), 3), take.polynomial(f, 5, 40)
                self.assertTrue(is_element(d, derivative(f, a)))
                sums = add(d, derivative(f, a), derivative(f, b))
                self.assertEqual(derivative(f, add(d, a, b)), sums)
                products = add(d, multiply(d, derivative(f, a), b), multiply(d, a, derivative(f, b)))
                self.assertEqual(derivative(f, multiply(d, a, b)), products)

    def test_values_of_a_composition_are_values_of_values(self):
        take = Sample(54)
        for f in FIELDS:
            for m in (-1, 0, 1, 2, 5):
                for n in (-1, 0, 1, 2, 4):
                    a, b = take.polynomial(f, m, 2), take.polynomial(f, n, 2)
                    answer = compose(f, a, b)
                    self.assertTrue(is_element(("P", f), answer))
                    if m > 0 and n > 0:
                        self.assertEqual(degree(answer), m * n)
                    for x in points(f, take):
                        self.assertEqual(evaluate(f, answer, x), evaluate(f, a, evaluate(f, b, x)))

    def test_known_compositions(self):
        self.assertEqual(compose(Q, whole(1, 2, 1), whole(-1, 1)), whole(0, 0, 1))
        self.assertEqual(compose(Q, whole(3, 2), ()), whole(3))
        self.assertEqual(compose(Q, (), whole(3, 2)), ())
        self.assertEqual(compose(F7, (0, 1), (1, 2, 3)), (1, 2, 3))
        self.assertEqual(compose(F7, (1, 2, 3), (0, 1)), (1, 2, 3))
        self.assertEqual(compose(F2, (1, 0, 1), (1, 1)), (0, 0, 1))

    def test_large_compositions(self):
        take = Sample(55)
        for f in FIELDS:
            a, b = take.polynomial(f, 30, 40), take.polynomial(f, 30, 1)
            answer = compose(f, a, b)
            self.assertEqual(degree(answer), 900)
            for x in (zero(f), one(f), from_integer(f, -1)):
                self.assertEqual(evaluate(f, answer, x), evaluate(f, a, evaluate(f, b, x)))

    def test_wrong_domains(self):
        for f in NO_DOMAINS + EUCLIDEAN:
            for a in ((), (1,), ((1, 1),)):
                for call in (lambda: make(f, list(a)), lambda: evaluate(f, a, 0),
                             lambda: derivative(f, a), lambda: compose(f, a, a),
                             lambda: power_modulo(f, a, 2, (0, 1)), lambda: square_free(f, a)):
                    with self.assertRaises(DomainError):
                        call()


class PowerModuloTest(unittest.TestCase):
    """Point 21."""

    def test_small_exponents(self):
        take = Sample(56)
        for f in FIELDS:
            d = ("P", f)
            for m, n in ((-1, 2), (0, 1), (1, 1), (2, 3), (5, 3), (3, 3)):
                a, b = take.polynomial(f, m, 2), take.polynomial(f, n, 2)
                for k in (0, 1, 2, 3, 7, 12):
                    answer = power_modulo(f, a, k, b)
                    self.assertTrue(is_element(d, answer))
                    self.assertEqual(answer, divide(d, power(d, a, k), b)[1])

    def test_exponents_over_fractions(self):
        a, b = whole(1, 1), whole(1, 0, 2)
        self.assertEqual(power_modulo(Q, a, 60, b), divide(PQ, power(PQ, a, 60), b)[1])
        self.assertEqual(power_modulo(Q, whole(0, 1), 60, whole(-1, 0, 0, 1)), whole(1))
        self.assertEqual(power_modulo(Q, whole(0, 1), 0, whole(5, 1)), whole(1))
        self.assertEqual(power_modulo(Q, (), 0, whole(5, 1)), whole(1))
        self.assertEqual(power_modulo(Q, (), 3, whole(5, 1)), ())
        self.assertEqual(power_modulo(Q, whole(5, 1), 1, whole(5, 1)), ())

    def test_sums_of_exponents(self):
        take = Sample(57)
        for f in FIELDS[1:]:
            d = ("P", f)
            for n in (1, 2, 8, 30):
                a, b = take.polynomial(f, 30, 1), take.polynomial(f, n, 1)
                j, k = take.below(BIG), take.below(BIG)
                both = multiply(d, power_modulo(f, a, j, b), power_modulo(f, a, k, b))
                self.assertEqual(power_modulo(f, a, j + k, b), divide(d, both, b)[1])
                self.assertEqual(power_modulo(f, a, 10 ** 40, b),
                                 power_modulo(f, power_modulo(f, a, 10 ** 20, b), 10 ** 20, b))

    def test_order_of_the_units(self):
        # x ** 4 + x + 1 is irreducible modulo 2: the powers of x repeat after 15 steps.
        b = (1, 1, 0, 0, 1)
        for k in range(40):
            self.assertEqual(power_modulo(F2, (0, 1), k, b), power_modulo(F2, (0, 1), k + 15, b))
        self.assertEqual(power_modulo(F2, (0, 1), 10 ** 40, b),
                         power_modulo(F2, (0, 1), 10 ** 40 % 15, b))


class SquareFreeTest(unittest.TestCase):
    """Point 22."""

    def check(self, f, a):
        d = ("P", f)
        answer = square_free(f, a)
        self.assertIs(type(answer), list)
        product = a[-1:]
        for b, k in answer:
            self.assertTrue(is_element(d, b))
            self.assertEqual(b[-1], one(f))
            self.assertGreaterEqual(degree(b), 1)
            self.assertGreaterEqual(k, 1)
            # A common factor of b and its derivative is a factor twice, and the fields are perfect.
            self.assertEqual(greatest(d, b, derivative(f, b))[0], one(d))
            product = multiply(d, product, power(d, b, k))
        self.assertEqual(product, a)
        multiplicities = [k for _, k in answer]
        self.assertEqual(multiplicities, sorted(set(multiplicities)))
        for i, (b, _) in enumerate(answer):
            for c, _ in answer[:i]:
                self.assertEqual(greatest(d, b, c)[0], one(d))
        return answer

    def test_constants(self):
        self.assertEqual(square_free(Q, ((-5, 3),)), [])
        self.assertEqual(square_free(F2, (1,)), [])
        self.assertEqual(square_free(F7, (4,)), [])

    def test_known_parts(self):
        a = multiply(PQ, power(PQ, whole(-1, 2), 3), whole(6, 0, 6))
        self.assertEqual(self.check(Q, a), [(whole(1, 0, 1), 1), (((-1, 2), (1, 1)), 3)])
        self.assertEqual(self.check(F2, (1, 0, 0, 0, 1)), [((1, 1), 4)])
        self.assertEqual(self.check(F2, (0, 1, 1)), [((0, 1, 1), 1)])
        self.assertEqual(self.check(F3, (0, 0, 0, 1, 0, 0, 2)), [((0, 2, 1), 3)])
        self.assertEqual(self.check(F3, (2,) + (0,) * 8 + (2,)), [((1, 1), 9)])

    def test_all_small_polynomials(self):
        for p, n in ((2, 128), (3, 243), (5, 625)):
            for number in range(1, n):
                digits = []
                while number:
                    digits.append(number % p)
                    number //= p
                self.check(("F", p), tuple(digits))

    def test_products(self):
        take = Sample(58)
        for f in FIELDS:
            d = ("P", f)
            for first, second, third in ((1, 2, 3), (2, 3, 6), (3, 1, 2), (4, 9, 2), (1, 1, 5)):
                a = take.polynomial(f, 0, 2)
                for k, size in ((first, 2), (second, 1), (third, 2)):
                    a = multiply(d, a, power(d, take.polynomial(f, size, 2), k))
                self.check(f, a)

    def test_powers_of_the_characteristic(self):
        take = Sample(59)
        for p in (2, 3, 5, 7):
            f = ("F", p)
            d = ("P", f)
            for _ in range(8):
                a = power(d, take.polynomial(f, 2, 1), p)
                self.assertEqual(derivative(f, a), ())
                for k, _ in [(k, b) for b, k in self.check(f, a)]:
                    self.assertEqual(k % p, 0)
                self.check(f, multiply(d, a, take.polynomial(f, 2, 1)))

    def test_large_polynomials(self):
        take = Sample(60)
        for f in FIELDS:
            d = ("P", f)
            self.check(f, take.polynomial(f, 30, 2))
            self.check(f, power(d, take.polynomial(f, 6, 3), 5))
        a = take.polynomial(Q, 30, 40)
        self.assertEqual(square_free(Q, a), [(normal(PQ, a)[0], 1)])
        b = take.polynomial(Q, 8, 40)
        self.assertEqual(square_free(Q, power(PQ, b, 3)), [(normal(PQ, b)[0], 3)])


class DivisorsTest(unittest.TestCase):
    """The inner side: exact division and common divisors without their coefficients."""

    def test_exact(self):
        self.assertEqual(exact(Q, [-1, 0, 1], [1, 1]), [-1, 1])
        self.assertIsNone(exact(Q, [1, 0, 1], [1, 1]))
        self.assertIsNone(exact(Q, [1, 1], [2, 2]))
        self.assertIsNone(exact(Q, [1], [1, 1]))
        self.assertEqual(exact(Q, [], [1, 1]), [])
        self.assertEqual(exact(F7, [6, 0, 1], [3, 3]), [2, 5])
        self.assertIsNone(exact(F7, [1, 0, 1], [1, 1]))

    def test_primes_that_divide_the_last_coefficients(self):
        p = 2 ** 61 - 1
        a, b = [1, p], [1, 1, 1]
        self.assertIsNone(shared_by_prime(convolved(a, b), convolved(a, [5, 0, 1]), p))
        self.assertEqual(shared(Q, convolved(a, b), convolved(a, [5, 0, 1])), a)

    def test_long_coefficients(self):
        g = [3 * BIG ** 20 + 1, -7, BIG ** 20]
        for s, t in (([1, 1], [2, 1]), ([5], [3, 0, 1]), ([4, 1], [])):
            found = shared(Q, convolved(g, s), convolved(g, t))
            expected = g if t else convolved(g, s)
            self.assertIn(found, (expected, [-c for c in expected]))
        self.assertEqual(shared(Q, [], []), [])

    def test_small_lists(self):
        take = Sample(61)
        for _ in range(200):
            a, b, c = [[take.signed(1) for _ in range(k)] + [2] for k in (2, 3, 1)]
            x, y = convolved(a, c), convolved(b, c)
            found = shared(Q, x, y)
            self.assertEqual(without_content([found]), [found])
            rational = [tuple((n, 1) for n in z) for z in (x, y, found)]
            self.assertEqual(normal(PQ, rational[2])[0], greatest(PQ, rational[0], rational[1])[0])


if __name__ == "__main__":
    unittest.main()
