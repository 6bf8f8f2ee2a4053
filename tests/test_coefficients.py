"""The inner side of the polynomials: the integers in it stay small."""

import math
import unittest

from echelon.coefficients import bezout, cleared, divided, restored, without_content
from tests.sample import Sample

Q = ("Q",)


class CoefficientsTest(unittest.TestCase):
    def test_cleared_takes_the_least_denominator(self):
        self.assertEqual(cleared(Q, ((1, 4), (0, 1), (-5, 6))), ([3, 0, -10], 12))
        self.assertEqual(cleared(Q, ()), ([], 1))
        self.assertEqual(cleared(("F", 7), (3, 4)), ([3, 4], 1))

    def test_restored_takes_zeros_off_the_end(self):
        self.assertEqual(restored(Q, [3, 0, -10, 0], 12), ((1, 4), (0, 1), (-5, 6)))
        self.assertEqual(restored(("F", 7), [1, 9, 14], 3), (5, 3))

    def test_content(self):
        self.assertEqual(without_content([[4, -6], [], [0, 10]]), [[2, -3], [], [0, 5]])
        self.assertEqual(without_content([[4, 6], [], [9]]), [[4, 6], [], [9]])
        self.assertEqual(without_content([[], [0], []]), [[], [0], []])

    def test_division_takes_the_least_factor(self):
        self.assertEqual(divided(Q, [1, 0, 4], [1, 2]), (1, [-1, 2], [2]))
        self.assertEqual(divided(Q, [1, 0, 3], [1, 2]), (4, [-3, 6], [7]))

    def test_equations_have_no_common_factor(self):
        take = Sample(41)
        for _ in range(20):
            a = [take.signed(2) for _ in range(6)] + [3]
            b = [take.signed(2) for _ in range(5)] + [-5]
            self.assertEqual(math.gcd(*[c for part in bezout(Q, a, b) for c in part]), 1)


if __name__ == "__main__":
    unittest.main()
