"""Points 23 and 24: irreducible factors and roots."""

import unittest
from fractions import Fraction
from itertools import product

from echelon.domains import divide, is_element, multiply, negate, normal, one, power, zero
from echelon.errors import DomainError
from echelon.factoring import factor, is_irreducible, roots
from echelon.polynomials import evaluate
from tests.sample import EUCLIDEAN, FIELDS, NO_DOMAINS, Sample

Q = ("Q",)
F2 = ("F", 2)
F3 = ("F", 3)
F7 = ("F", 7)
LARGE = ("F", 65521)
PQ = ("P", Q)
SMALL = ((2, 7), (3, 4), (5, 3), (7, 2))


def whole(*numbers):
    """The polynomial over the fractions with these integers as its coefficients."""
    return tuple((n, 1) for n in numbers)


def monic(p, degree):
    """All monic polynomials of a degree, in the order of point 23."""
    for digits in product(range(p), repeat=degree):
        yield digits[::-1] + (1,)


def irreducible(p, degree):
    """All monic irreducible polynomials up to a degree, by trial division."""
    out = []
    for k in range(1, degree + 1):
        for a in monic(p, k):
            if not any(2 * len(b) <= len(a) + 1 and not divide(("P", ("F", p)), a, b)[1]
                       for b in out):
                out.append(a)
    return out


def product_of(f, last, pairs):
    out = (last,)
    for b, k in pairs:
        out = multiply(("P", f), out, power(("P", f), b, k))
    return out


def linear(f, x):
    """The polynomial with the root x."""
    return negate(f, x), one(f)


class FactorTest(unittest.TestCase):
    """Point 23."""

    def check(self, f, a):
        answer = factor(f, a)
        self.assertIs(type(answer), list)
        self.assertEqual(product_of(f, a[-1], answer), a)
        for b, k in answer:
            self.assertTrue(is_element(("P", f), b))
            self.assertEqual(b[-1], 1)
            self.assertGreaterEqual(len(b), 2)
            self.assertGreaterEqual(k, 1)
            self.assertIs(is_irreducible(f, b), True)
        factors = [b for b, _ in answer]
        self.assertEqual(factors, sorted(set(factors), key=lambda b: (len(b), b[::-1])))
        self.assertIs(is_irreducible(f, a), len(answer) == 1 and answer[0][1] == 1)
        return answer

    def test_all_small_polynomials(self):
        for p, n in SMALL:
            f = ("F", p)
            known = irreducible(p, n)
            for k in range(1, n + 1):
                for a in monic(p, k):
                    self.assertIs(is_irreducible(f, a), a in known)
                    for b, _ in self.check(f, a):
                        self.assertIn(b, known)

    def test_last_coefficients(self):
        self.assertEqual(self.check(F7, (3, 3)), [((1, 1), 1)])
        self.assertEqual(self.check(F7, (1, 0, 6)), [((1, 1), 1), ((6, 1), 1)])
        self.assertEqual(self.check(F7, (5, 5, 5)), [((3, 1), 1), ((5, 1), 1)])

    def test_constants(self):
        for f in FIELDS[1:]:
            self.assertEqual(factor(f, (1,)), [])
            self.assertEqual(factor(f, (f[1] - 1,)), [])
            self.assertIs(is_irreducible(f, (1,)), False)
            self.assertIs(is_irreducible(f, ()), False)

    def test_degree_one(self):
        for f in FIELDS[1:]:
            self.assertEqual(self.check(f, (f[1] - 1, 1)), [((f[1] - 1, 1), 1)])
            self.assertEqual(self.check(f, (0, f[1] - 1)), [((0, 1), 1)])

    def test_powers_of_the_characteristic(self):
        self.assertEqual(self.check(F2, (1,) + (0,) * 15 + (1,)), [((1, 1), 16)])
        self.assertEqual(self.check(F3, (2,) + (0,) * 26 + (1,)), [((2, 1), 27)])
        self.assertEqual(self.check(F2, (1, 0, 1, 0, 1)), [((1, 1, 1), 2)])
        self.assertEqual(self.check(F2, (0, 0, 1, 0, 1)), [((0, 1), 2), ((1, 1), 2)])

    def test_all_elements_are_roots(self):
        for p in (2, 3, 5, 7, 29):
            a = (0, p - 1) + (0,) * (p - 2) + (1,) if p > 2 else (0, 1, 1)
            self.assertEqual(self.check(("F", p), a), [((c, 1), 1) for c in range(p)])

    def test_products_of_equal_degrees(self):
        take = Sample(71)
        for f in FIELDS[1:]:
            for size, many in ((1, 6), (2, 4), (3, 4), (5, 3), (10, 3), (15, 2)):
                a = (1,)
                while len(a) <= size * many:
                    b = normal(("P", f), take.polynomial(f, size, 1))[0]
                    if is_irreducible(f, b):
                        a = multiply(("P", f), a, b)
                self.assertEqual({len(b) - 1 for b, _ in self.check(f, a)}, {size})

    def test_large_polynomials(self):
        take = Sample(72)
        for f in FIELDS[1:] + (("F", 5), ("F", 251)):
            for _ in range(3):
                self.check(f, take.polynomial(f, 30, 1))
                self.check(f, product_of(f, 1, [(take.polynomial(f, k, 1), k) for k in (1, 2, 3, 4)]))

    def test_order(self):
        answer = factor(LARGE, product_of(LARGE, 5, [((9, 1), 1), ((3, 7, 1), 1), ((8, 1), 2),
                                                     ((65520, 1), 1)]))
        lengths = [(len(b), b[::-1]) for b, _ in answer]
        self.assertEqual(lengths, sorted(lengths))
        self.assertEqual(answer[0], ((8, 1), 2))

    def test_wrong_domains(self):
        for f in NO_DOMAINS + EUCLIDEAN + (Q,):
            for a in ((1,), (0, 1), whole(1, 1)):
                with self.assertRaises(DomainError):
                    factor(f, a)
                with self.assertRaises(DomainError):
                    is_irreducible(f, a)


class RootsTest(unittest.TestCase):
    """Point 24."""

    def check(self, f, a, expected):
        """Look whether the roots are the expected ones: pairs of an element and its multiplicity."""
        answer = roots(f, a)
        self.assertIs(type(answer), list)
        self.assertEqual(answer, expected)
        for x, _ in answer:
            self.assertTrue(is_element(f, x))

    def test_all_small_polynomials(self):
        for p, n in SMALL:
            f = ("F", p)
            for k in range(n + 1):
                for a in monic(p, k):
                    expected = []
                    for x in range(p):
                        many = 0
                        rest = a
                        while evaluate(f, rest, x) == 0:
                            rest = divide(("P", f), rest, linear(f, x))[0]
                            many += 1
                        if many:
                            expected.append((x, many))
                    self.check(f, a, expected)

    def test_constants(self):
        self.check(Q, ((-5, 3),), [])
        for f in FIELDS[1:]:
            self.check(f, (1,), [])

    def test_known_fractions(self):
        self.check(Q, whole(-1, 0, 1), [((-1, 1), 1), ((1, 1), 1)])
        self.check(Q, whole(-2, 0, 1), [])
        self.check(Q, whole(1, 0, 1), [])
        self.check(Q, whole(0, 0, 0, 5), [((0, 1), 3)])
        self.check(Q, whole(0, 3, 2), [((-3, 2), 1), ((0, 1), 1)])
        self.check(Q, whole(1, -4, 4), [((1, 2), 2)])
        self.check(Q, ((1, 6), (-5, 6), (1, 1)), [((1, 3), 1), ((1, 2), 1)])
        self.check(Q, ((1, 7), (3, 1)), [((-1, 21), 1)])

    def test_order_of_fractions(self):
        numbers = [(-7, 2), (-10, 3), (-1, 1), (-1, 10 ** 20), (0, 1), (1, 3), (2, 5), (1, 2), (3, 1)]
        self.assertEqual(numbers, sorted(numbers, key=lambda x: Fraction(*x)))
        pairs = [(x, 1 + k % 3) for k, x in enumerate(numbers)]
        a = product_of(Q, (-4, 9), [(linear(Q, x), k) for x, k in reversed(pairs)])
        self.check(Q, a, pairs)
        self.check(Q, multiply(PQ, a, whole(3, 0, 0, 1, 1)), pairs)

    def test_many_roots(self):
        pairs = [((k, 1), 1) for k in range(1, 31)]
        self.check(Q, product_of(Q, (1, 1), [(linear(Q, x), k) for x, k in pairs]), pairs)
        pairs = [((k, 7), 2) for k in range(-7, 8) if k % 7]
        self.check(Q, product_of(Q, (3, 1), [(linear(Q, x), k) for x, k in pairs]), pairs)

    def test_long_fractions(self):
        take = Sample(73)
        numbers = sorted([take.fraction(40) for _ in range(5)], key=lambda x: Fraction(*x))
        pairs = [(x, 1 + k) for k, x in enumerate(numbers)]
        self.check(Q, product_of(Q, (1, 1), [(linear(Q, x), k) for x, k in pairs]), pairs)
        self.check(Q, take.polynomial(Q, 30, 40), [])
        self.check(Q, multiply(PQ, take.polynomial(Q, 29, 40), linear(Q, numbers[2])),
                   [(numbers[2], 1)])

    def test_large_fields(self):
        take = Sample(74)
        for f in (("F", 97), ("F", 251), LARGE):
            numbers = sorted({take.below(f[1]) for _ in range(12)})
            pairs = [(x, 1 + k % 3) for k, x in enumerate(numbers)]
            rest = take.polynomial(f, 6, 1)
            while not is_irreducible(f, rest):
                rest = take.polynomial(f, 6, 1)
            a = product_of(f, 3, [(linear(f, x), k) for x, k in pairs] + [(rest, 1)])
            self.check(f, a, pairs)
            self.check(f, rest, [])

    def test_powers_of_the_characteristic(self):
        self.check(F2, (1,) + (0,) * 15 + (1,), [(1, 16)])
        self.check(F3, (0,) * 9 + (2,), [(0, 9)])
        self.check(F3, (1,) + (0,) * 26 + (1,), [(2, 27)])

    def test_wrong_domains(self):
        for f in NO_DOMAINS + EUCLIDEAN:
            for a in ((1,), (0, 1), whole(1, 1)):
                with self.assertRaises(DomainError):
                    roots(f, a)

    def test_zero_is_a_root_without_constant(self):
        for f in FIELDS:
            self.check(f, (zero(f), one(f)), [(zero(f), 1)])


if __name__ == "__main__":
    unittest.main()
