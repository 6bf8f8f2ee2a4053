"""Points 10 to 14: greatest common divisors, remainders, primes, fractions and roots."""

import math
import unittest
from fractions import Fraction

from echelon.numbers import (
    combine, common, fraction, is_prime, next_prime, reconstruct, root, symmetric,
)
from tests.sample import Sample

BIG = 10 ** 40


class CommonTest(unittest.TestCase):
    """Point 10."""

    def check(self, a, b):
        answer = common(a, b)
        self.assertIs(type(answer), tuple)
        for part in answer:
            self.assertIs(type(part), int)
        g, s, t = answer
        self.assertEqual(g, math.gcd(a, b))
        self.assertEqual(s * a + t * b, g)
        if a == 0 and b == 0:
            self.assertEqual(answer, (0, 0, 0))
        elif b == 0:
            self.assertEqual(t, 0)
        elif a == 0:
            self.assertEqual(s, 0)
        else:
            self.assertLessEqual(abs(s), abs(b // g))
            self.assertLessEqual(abs(t), abs(a // g))

    def test_all_small_pairs(self):
        for a in range(-40, 41):
            for b in range(-40, 41):
                self.check(a, b)

    def test_zeros(self):
        self.assertEqual(common(0, 0), (0, 0, 0))
        self.assertEqual(common(7, 0), (7, 1, 0))
        self.assertEqual(common(-7, 0), (7, -1, 0))
        self.assertEqual(common(0, 7), (7, 0, 1))
        self.assertEqual(common(0, -7), (7, 0, -1))

    def test_long_integers(self):
        take = Sample(1)
        for digits in (9, 20, 40, 50):
            for _ in range(50):
                a, b, c = take.signed(digits), take.signed(digits), take.signed(digits // 2)
                self.check(a, b)
                self.check(a * c, b * c)
                self.check(a * c, c)
                self.check(c, -a * c)

    def test_integers_whose_quotients_are_ones(self):
        a, b = 1, 1
        while a < BIG:
            a, b = a + b, a
            self.check(a, b)
            self.check(-b, a)


class CombineTest(unittest.TestCase):
    """Point 11."""

    def brute(self, pairs):
        m = math.lcm(*[n for _, n in pairs])
        for r in range(m):
            if all((r - other) % n == 0 for other, n in pairs):
                return r, m
        return None

    def test_no_pairs(self):
        self.assertEqual(combine([]), (0, 1))

    def test_one_pair(self):
        self.assertEqual(combine([(5, 7)]), (5, 7))
        self.assertEqual(combine([(12, 7)]), (5, 7))
        self.assertEqual(combine([(-2, 7)]), (5, 7))
        self.assertEqual(combine([(0, 7)]), (0, 7))
        self.assertEqual(combine([(7, 7)]), (0, 7))

    def test_moduli_of_one(self):
        self.assertEqual(combine([(0, 1)]), (0, 1))
        self.assertEqual(combine([(9, 1), (-3, 1)]), (0, 1))
        self.assertEqual(combine([(9, 1), (3, 5), (4, 1)]), (3, 5))

    def test_remainders_that_do_not_fit(self):
        self.assertIsNone(combine([(0, 2), (1, 2)]))
        self.assertIsNone(combine([(1, 4), (3, 6), (2, 6)]))
        self.assertIsNone(combine([(1, 6), (2, 10)]))
        self.assertIsNone(combine([(1, 2), (1, 3), (0, 6)]))

    def test_common_factors_that_fit(self):
        self.assertEqual(combine([(1, 6), (3, 10)]), (13, 30))
        self.assertEqual(combine([(2, 4), (2, 4)]), (2, 4))
        self.assertEqual(combine([(3, 4), (7, 12)]), (7, 12))
        self.assertEqual(combine([(7, 12), (3, 4)]), (7, 12))

    def test_all_small_pairs(self):
        for m in range(1, 11):
            for n in range(1, 11):
                for r in range(m):
                    for s in range(-1, n + 1):
                        pairs = [(r, m), (s, n)]
                        self.assertEqual(combine(pairs), self.brute(pairs))

    def test_more_pairs(self):
        take = Sample(2)
        for _ in range(400):
            number = take.signed(4)
            pairs = []
            for _ in range(take.between(2, 4)):
                m = take.between(1, 12)
                pairs.append((number + m * take.between(-2, 2), m))
            if take.below(3) == 0:
                pairs[0] = (pairs[0][0] + 1, pairs[0][1])
            self.assertEqual(combine(pairs), self.brute(pairs))

    def test_long_integers(self):
        take = Sample(3)
        for _ in range(50):
            number = take.below(BIG)
            moduli = [take.between(1, BIG) for _ in range(5)]
            moduli.append(moduli[0] * 6)
            pairs = [(number % m, m) for m in moduli]
            total = math.lcm(*moduli)
            self.assertEqual(combine(pairs), (number % total, total))
            pairs[0] = (pairs[0][0] + 1, pairs[0][1])
            if moduli[0] > 1:
                self.assertIsNone(combine(pairs))

    def test_argument_stays_as_it_was(self):
        for pairs in ([(12, 7), (-1, 5)], [(0, 2), (1, 2)], []):
            before = list(pairs)
            first = combine(pairs)
            self.assertEqual(pairs, before)
            self.assertEqual(combine(pairs), first)


class ReconstructTest(unittest.TestCase):
    """Point 12."""

    def brute(self, r, m, bound):
        found = None
        for d in range(bound, 0, -1):
            for n in range(-bound, bound + 1):
                if (n - r * d) % m == 0 and math.gcd(d, m) == 1:
                    found = (n, d)
        return found

    def test_all_small_numbers(self):
        for m in range(3, 75):
            for bound in range(1, 7):
                if 2 * bound * bound < m:
                    for r in range(m):
                        self.assertEqual(reconstruct(r, m, bound), self.brute(r, m, bound))

    def test_numbers_outside_of_the_remainders(self):
        self.assertEqual(reconstruct(-1, 7, 1), (-1, 1))
        self.assertEqual(reconstruct(8, 7, 1), (1, 1))
        self.assertEqual(reconstruct(700, 7, 1), (0, 1))
        self.assertEqual(reconstruct(-50, 101, 7), (1, 2))

    def test_bounds_at_which_a_fraction_is_just_found(self):
        # 9 / 11 modulo 1009, 11 / 9 and -11 / 9.
        for n, d in ((9, 11), (11, 9), (-11, 9), (-9, 11), (11, 1), (1, 11)):
            r = n * pow(d, -1, 1009) % 1009
            self.assertEqual(reconstruct(r, 1009, 11), (n, d))
            self.assertEqual(reconstruct(r, 1009, 12), (n, d))
            self.assertIsNone(reconstruct(r, 1009, 10))

    def test_denominators_with_a_factor_of_the_modulus(self):
        # 3 times 33 is 0 modulo 99, and 0 / 3 is no fraction for 33.
        self.assertIsNone(reconstruct(33, 99, 7))
        self.assertIsNone(reconstruct(11, 1001, 1))
        self.assertIsNone(reconstruct(500, 1000, 22))
        self.assertEqual(reconstruct(0, 1000, 22), (0, 1))

    def test_long_integers(self):
        take = Sample(4)
        for bound in (10 ** 6, 10 ** 20, 10 ** 40):
            modulus = 2 * bound * bound + 1
            found = 0
            while found < 40:
                n, d = take.between(-bound, bound), take.between(1, bound)
                if math.gcd(n, d) == 1 and math.gcd(d, modulus) == 1:
                    r = n * pow(d, -1, modulus) % modulus
                    self.assertEqual(reconstruct(r, modulus, bound), (n, d))
                    limit = max(abs(n), d)
                    self.assertEqual(reconstruct(r, modulus, limit), (n, d))
                    self.assertIsNone(reconstruct(r, modulus, limit - 1))
                    found += 1


class PrimeTest(unittest.TestCase):
    """Point 13."""

    def window(self, low, high):
        """The primes from low to high - 1, found with a sieve."""
        marks = [True] * (high - low)
        for p in range(2, math.isqrt(high) + 1):
            for k in range(max(p * p, -(-low // p) * p), high, p):
                marks[k - low] = False
        return [low + k for k, mark in enumerate(marks) if mark and low + k > 1]

    def check(self, low, high):
        self.assertEqual([n for n in range(low, high) if is_prime(n)], self.window(low, high))

    def test_all_small_numbers(self):
        self.check(0, 20000)

    def test_negative_numbers_zero_and_one(self):
        for n in (1, 0, -1, -2, -3, -5, -7, -97, -(2 ** 31 - 1), -BIG):
            self.assertIs(is_prime(n), False)

    def test_answers_are_truth_values(self):
        for n in (2, 3, 5, 65521):
            self.assertIs(is_prime(n), True)
        for n in (4, 9, 15, 25, 35, 65520):
            self.assertIs(is_prime(n), False)

    def test_numbers_near_the_limits(self):
        for middle in (2 ** 16, 2 ** 31, 46341 ** 2, 3 * 10 ** 9):
            self.check(middle - 300, middle + 300)
        self.check(2 ** 32 - 1000, 2 ** 32)
        self.assertIs(is_prime(2 ** 31 - 1), True)
        self.assertIs(is_prime(2 ** 32 - 5), True)
        self.assertIs(is_prime(2 ** 31), False)

    def test_squares_and_products_of_primes(self):
        primes = self.window(2, 300) + self.window(65350, 65536)
        for p in primes:
            for q in primes:
                self.assertIs(is_prime(p * q), False)

    def test_composites_that_often_pass(self):
        for n in (341, 561, 645, 1105, 1387, 1729, 1905, 2047, 2465, 2821, 3277, 4033, 4681, 6601,
                  8321, 8911, 1194649, 1373653, 12327121, 25326001, 161304001, 294409, 56052361,
                  118901521, 172947529, 960946321, 1157839381, 3215031751, 3697278427,
                  4294967297):
            self.assertIs(is_prime(n), False)

    def test_next_prime(self):
        for n, p in ((0, 2), (1, 2), (2, 3), (3, 5), (4, 5), (7, 11), (13, 17), (23, 29), (89, 97),
                     (113, 127), (65520, 65521), (65521, 65537), (32768, 32771),
                     (2147483629, 2147483647), (2 ** 31 - 2, 2 ** 31 - 1),
                     (2 ** 31 - 1, 2147483659), (2 ** 31, 2147483659)):
            self.assertEqual(next_prime(n), p)

    def test_next_prime_goes_through_all_primes(self):
        for low, high in ((2, 5000), (1327, 1362), (31397, 31470), (2 ** 31 - 400, 2 ** 31 + 60)):
            primes = self.window(low, high)
            for p, q in zip(primes, primes[1:]):
                self.assertEqual(next_prime(p), q)
                self.assertEqual(next_prime(q - 1), q)


class FractionTest(unittest.TestCase):
    """Point 14: fraction."""

    def check(self, n, d):
        answer = fraction(n, d)
        self.assertIs(type(answer), tuple)
        expected = Fraction(n, d)
        self.assertEqual(answer, (expected.numerator, expected.denominator))

    def test_small_numbers(self):
        for n in range(-30, 31):
            for d in range(-30, 31):
                if d:
                    self.check(n, d)

    def test_zero(self):
        for d in (1, -1, 7, -7, BIG, -BIG):
            self.assertEqual(fraction(0, d), (0, 1))

    def test_long_integers(self):
        take = Sample(5)
        for _ in range(200):
            n, d, c = take.signed(45), take.between(1, 10 ** 45), take.between(1, 10 ** 9)
            self.check(n, -d)
            self.check(n * c, d * c)
            self.check(-n * c, -c)


class RootTest(unittest.TestCase):
    """Point 14: root."""

    def test_small_numbers(self):
        expected = 0
        for n in range(3000):
            if (expected + 1) ** 2 <= n:
                expected += 1
            self.assertEqual(root(n), expected)

    def test_numbers_next_to_squares(self):
        take = Sample(6)
        for digits in (5, 8, 9, 16, 20, 40, 200):
            for _ in range(20):
                k = take.between(1, 10 ** digits)
                self.assertEqual(root(k * k - 1), k - 1)
                self.assertEqual(root(k * k), k)
                self.assertEqual(root(k * k + 2 * k), k)


class SymmetricTest(unittest.TestCase):
    """Point 14: symmetric."""

    def check(self, r, m):
        x = symmetric(r, m)
        self.assertIs(type(x), int)
        self.assertEqual((x - r) % m, 0)
        self.assertGreater(2 * x, -m)
        self.assertLessEqual(2 * x, m)

    def test_small_numbers(self):
        for m in range(1, 20):
            for r in range(-45, 46):
                self.check(r, m)

    def test_edges(self):
        self.assertEqual(symmetric(5, 1), 0)
        self.assertEqual(symmetric(1, 2), 1)
        self.assertEqual(symmetric(-1, 2), 1)
        self.assertEqual(symmetric(2, 4), 2)
        self.assertEqual(symmetric(-2, 4), 2)
        self.assertEqual(symmetric(3, 4), -1)
        self.assertEqual(symmetric(2, 5), 2)
        self.assertEqual(symmetric(3, 5), -2)
        self.assertEqual(symmetric(0, 5), 0)

    def test_long_integers(self):
        take = Sample(7)
        for _ in range(200):
            m = take.between(1, BIG)
            for r in (take.signed(40), m // 2, m // 2 + 1, -(m // 2), m, -m):
                self.check(r, m)


if __name__ == "__main__":
    unittest.main()
