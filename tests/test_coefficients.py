"""The inner side of the polynomials: the integers in it stay small."""

import math
import unittest

from echelon.coefficients import (
    bezout, cleared, convolved, convolved_at_once, divided, restored, without_content,
)
from tests.sample import Sample

Q = ("Q",)


class CoefficientsTest(unittest.TestCase):
    def test_cleared_takes_the_least_denominator(self):
        self.assertEqual(cleared(Q, ((1, 4), (0, 1), (-5, 6))), ([3, 0, -10], 12))
        self.assertEqual(cleared(Q, ()), ([], 1))
        self.assertEqual(cleared(("F", 7), (3, 4)), ([3, 4], 1))

    def test_restored_takes_zeros_off_the_end(self):
        self.assertEqual(restored(Q, [3, 0, -10, 0], 12), ((1, 4), (0, 1), (-5, 6)))
        self.assertEqual(restored(("F", 7), [1, 9, 14], 3), (5, 3))

    def test_long_lists_are_multiplied_at_once(self):
        take = Sample(42)
        for m, n, digits in ((1, 1, 1), (3, 2, 1), (41, 41, 1), (41, 100, 40), (60, 50, 5), (200, 41, 300)):
            for sign in (1, -1, 0):
                a = [sign * take.signed(digits) for _ in range(m)]
                b = [take.signed(digits) for _ in range(n)]
                self.check_product(a, b)
                self.check_product([abs(c) for c in a], [-abs(c) for c in b])
        for m, n in ((41, 41), (50, 45)):
            self.check_product([0] * m, [0] * n)
            self.check_product([16 ** 9] * m, [16 ** 7] * n)
            self.check_product([16 ** 9 - 1] * m, [1 - 16 ** 7] * n)
            self.check_product([0] * (m - 1) + [1], [0] * (n - 1) + [-1])
            self.check_product([-1] * m, [1] * n)

    def check_product(self, a, b):
        expected = [0] * (len(a) + len(b) - 1)
        for i, x in enumerate(a):
            for k, y in enumerate(b):
                expected[i + k] += x * y
        self.assertEqual(convolved_at_once(a, b), expected)
        self.assertEqual(convolved(a, b), expected)

    def test_content(self):
        self.assertEqual(without_content([[4, -6], [], [0, 10]]), [[2, -3], [], [0, 5]])
        self.assertEqual(without_content([[4, 6], [], [9]]), [[4, 6], [], [9]])
        self.assertEqual(without_content([[], [0], []]), [[], [0], []])

    def test_division_takes_the_least_factor(self):
        self.assertEqual(divided(Q, [1, 0, 4], [1, 2]), (1, [-1, 2], [2]))
        self.assertEqual(divided(Q, [1, 0, 3], [1, 2]), (4, [-3, 6], [7]))

    def test_equations_have_no_common_factor(self):
        take = Sample(41)
        for _ in range(20):
            a = [take.signed(2) for _ in range(6)] + [3]
            b = [take.signed(2) for _ in range(5)] + [-5]
            self.assertEqual(math.gcd(*[c for part in bezout(Q, a, b) for c in part]), 1)


if __name__ == "__main__":
    unittest.main()
