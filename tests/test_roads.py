"""Points 80 to 88: the same answers by primes and remainders, and by lifting."""

import unittest
from itertools import product
from math import isqrt

from echelon.elimination import determinant, rank, solve
from echelon.errors import ShapeError, SingularError
from echelon.euclid import determinant_of, hermite
from echelon.matrices import applied, change, identity, is_matrix, times, zero_matrix
from echelon.operators import characteristic
from echelon.roads import (
    characteristic_by_primes, coefficient_bound, determinant_bound, determinant_by_primes,
    hermite_by_modulus, lift, primes_for, rank_by_primes, solve_by_lifting,
)
from tests.sample import Sample

Z = ("Z",)
Q = ("Q",)
NONE = (0, 0, ())
BIG = 10 ** 40
FIRST = 32771


def by_trial(many):
    """The first primes above 32768."""
    out = []
    n = 32769
    while len(out) < many:
        if all(n % k for k in range(2, isqrt(n) + 1)):
            out.append(n)
        n += 1
    return out


PRIMES = by_trial(1400)


def integers(*rows):
    """The matrix over the integers with these rows, of which there is at least one."""
    return len(rows), len(rows[0]), tuple(rows)


def squares(start, many=12, largest=5):
    """Square matrices over the integers, small and large, of full and of lower rank."""
    take = Sample(start)
    yield NONE
    for n in range(1, largest + 1):
        for _ in range(many):
            yield take.matrix(Z, n, n, 0, 1)
        yield take.matrix(Z, n, n, 0, 12)
        yield zero_matrix(Z, n, n)
        yield identity(Z, n)
        yield times(Z, take.matrix(Z, n, n - 1, 0, 1), take.matrix(Z, n - 1, n, 0, 1))
    yield take.matrix(Z, 10, 10, 0, 1)
    yield take.matrix(Z, 10, 10, 0, 40)
    yield take.matrix(Z, 11, 11, 0, 41)
    # Determinants and pivots that the first primes divide.
    yield integers((FIRST,))
    yield integers((FIRST, 0), (0, 1))
    yield integers((PRIMES[0] * PRIMES[1], 5), (PRIMES[0], PRIMES[2]))
    yield integers((PRIMES[0], PRIMES[0] * 2), (3, 7))


def whole(n):
    return change(Z, Q, n)


class BoundTest(unittest.TestCase):
    """Point 80."""

    def test_bounds(self):
        for a in squares(231):
            lower = upper = 1
            for row in a[2]:
                size = isqrt(sum(x * x for x in row))
                lower *= size + 1
                upper *= size + 2
            self.assertEqual(determinant_bound(a), lower)
            self.assertEqual(coefficient_bound(a), upper)
            self.assertLessEqual(abs(determinant_of(Z, a)), lower)
            for c in characteristic(Q, whole(a)):
                self.assertLessEqual(abs(c[0]), upper)

    def test_known_bounds(self):
        self.assertEqual((determinant_bound(NONE), coefficient_bound(NONE)), (1, 1))
        self.assertEqual((determinant_bound(integers((3, 4), (0, 0))), coefficient_bound(integers((3, 4), (0, 0)))),
                         (6, 14))
        self.assertEqual((determinant_bound(integers((-5,))), coefficient_bound(integers((-5,)))), (6, 7))
        self.assertEqual(determinant_bound(integers((1, 1), (1, 2))), 2 * 3)

    def test_matrices_that_are_not_square(self):
        for m, n in ((1, 2), (2, 1), (0, 1), (3, 0)):
            for function in (determinant_bound, coefficient_bound, determinant_by_primes, characteristic_by_primes,
                             hermite_by_modulus):
                with self.assertRaises(ShapeError):
                    function(zero_matrix(Z, m, n))


class PrimesTest(unittest.TestCase):
    """Point 81."""

    def test_products_and_their_neighbours(self):
        self.assertEqual(primes_for(0), [])
        total = 1
        for many, p in enumerate(PRIMES[:40]):
            # The product of so many primes is not greater than itself.
            self.assertEqual(primes_for(total - 1), PRIMES[:many])
            self.assertEqual(primes_for(total), PRIMES[:many + 1])
            self.assertEqual(primes_for(total + 1), PRIMES[:many + 1])
            total *= p
        for m in (1, 2, 32770, 32771 - 1):
            self.assertEqual(primes_for(m), [FIRST])
        self.assertEqual(primes_for(FIRST), PRIMES[:2])

    def test_the_longest_list(self):
        found = primes_for(10 ** 6000)
        self.assertIs(type(found), list)
        self.assertEqual(found, PRIMES[:len(found)])
        total = 1
        for p in found[:-1]:
            total *= p
        self.assertLessEqual(total, 10 ** 6000)
        self.assertGreater(total * found[-1], 10 ** 6000)


class DeterminantTest(unittest.TestCase):
    """Points 82 and 88."""

    def test_determinant_by_primes(self):
        for a in squares(232):
            answer = determinant_by_primes(a)
            self.assertIs(type(answer), tuple)
            d, images = answer
            self.assertEqual(d, determinant_of(Z, a))
            self.assertIs(type(images), tuple)
            self.assertEqual([p for p, _ in images], primes_for(2 * determinant_bound(a)))
            for p, r in images:
                self.assertEqual(r, d % p)
            for p, r in images[:3]:
                self.assertEqual(r, determinant(("F", p), change(Z, ("F", p), a)))

    def test_known_determinants(self):
        self.assertEqual(determinant_by_primes(NONE), (1, ((FIRST, 1),)))
        self.assertEqual(determinant_by_primes(integers((-3,))), (-3, ((FIRST, FIRST - 3),)))
        self.assertEqual(determinant_by_primes(integers((0,))), (0, ((FIRST, 0),)))
        n = -FIRST * PRIMES[1]
        self.assertEqual(determinant_by_primes(integers((n,))),
                         (n, ((FIRST, 0), (PRIMES[1], 0), (PRIMES[2], n % PRIMES[2]))))


class CharacteristicTest(unittest.TestCase):
    """Points 83 and 88."""

    def test_characteristic_by_primes(self):
        for a in squares(233):
            found = characteristic_by_primes(a)
            self.assertIs(type(found), tuple)
            self.assertEqual(tuple((c, 1) for c in found), characteristic(Q, whole(a)))
            for c in found:
                self.assertIs(type(c), int)

    def test_known_coefficients(self):
        self.assertEqual(characteristic_by_primes(NONE), (1,))
        self.assertEqual(characteristic_by_primes(integers((1, 2), (3, 4))), (-2, -5, 1))
        self.assertEqual(characteristic_by_primes(integers((-BIG,))), (BIG, 1))
        self.assertEqual(characteristic_by_primes(zero_matrix(Z, 3, 3)), (0, 0, 0, 1))
        # More than half of a product of primes.
        for n in (FIRST - 10, FIRST // 2 + 1, FIRST * PRIMES[1] - 10):
            for x in (n, -n):
                self.assertEqual(characteristic_by_primes(integers((x,))), (-x, 1))
                self.assertEqual(determinant_by_primes(integers((x,)))[0], x)


class RankTest(unittest.TestCase):
    """Points 84 and 88."""

    def check(self, a):
        r, p = rank_by_primes(a)
        self.assertEqual(r, rank(Q, whole(a)))
        self.assertIn(p, PRIMES)
        for other in PRIMES[:PRIMES.index(p)]:
            self.assertLess(rank(("F", other), change(Z, ("F", other), a)), r)
        self.assertEqual(rank(("F", p), change(Z, ("F", p), a)), r)
        return r, p

    def test_samples(self):
        take = Sample(234)
        for m, n in take.sizes(30, 6):
            self.check(take.matrix(Z, m, n, 0, 1))
            self.check(times(Z, take.matrix(Z, m, 2, 0, 1), take.matrix(Z, 2, n, 0, 1)))
            self.check(zero_matrix(Z, m, n))
        for m, n, r in ((10, 10, 10), (10, 10, 3), (4, 10, 2), (10, 4, 4), (11, 11, 10)):
            self.check(times(Z, take.matrix(Z, m, r, 0, 20), take.matrix(Z, r, n, 0, 20)))
        for a in squares(235, 3):
            self.check(a)

    def test_multiples_of_the_first_primes(self):
        for many in (1, 2, 5, 20):
            scale = 1
            for p in PRIMES[:many]:
                scale *= p
            self.assertEqual(self.check(integers((scale,))), (1, PRIMES[many]))
            self.assertEqual(self.check(integers((1, 0), (0, scale))), (2, PRIMES[many]))
            self.assertEqual(self.check(integers((scale, 2 * scale, 3 * scale), (1, 2, 3))), (1, FIRST))
            self.assertEqual(self.check(integers((scale, 0, 0), (0, 1, 0), (1, 1, 0))), (2, FIRST))
        self.assertEqual(self.check(integers((PRIMES[0], 0), (0, PRIMES[1]))), (2, PRIMES[2]))
        self.assertEqual(self.check(integers((PRIMES[1],))), (1, PRIMES[0]))

    def test_zero_and_without_entries(self):
        for m, n in ((0, 0), (0, 3), (3, 0), (2, 3), (10, 10)):
            self.assertEqual(rank_by_primes(zero_matrix(Z, m, n)), (0, FIRST))


class LiftTest(unittest.TestCase):
    """Points 85, 86 and 88."""

    def check_lift(self, a, b, p, k):
        x = lift(a, b, p, k)
        self.assertIs(type(x), tuple)
        self.assertEqual(len(x), a[0])
        modulus = p ** k
        for c in x:
            self.assertIs(type(c), int)
            self.assertTrue(0 <= c < modulus)
        for c, y in zip(applied(Z, a, x), b):
            self.assertEqual((c - y) % modulus, 0)

    def test_lift(self):
        take = Sample(236)
        for p in (2, 3, 97, FIRST, 65521):
            for k in (1, 2, 7, 50):
                for a in squares(236, 3):
                    b = take.vector(Z, a[0], 0, 3)
                    if determinant_of(Z, a) % p:
                        self.check_lift(a, b, p, k)
                    else:
                        with self.assertRaises(SingularError):
                            lift(a, b, p, k)

    def test_many_digits(self):
        take = Sample(237)
        for p in (2, 65521):
            for n, digits in ((1, 1), (3, 2), (10, 40)):
                a = zero_matrix(Z, n, n)
                while determinant_of(Z, a) % p == 0:
                    a = take.matrix(Z, n, n, 0, digits)
                self.check_lift(a, take.vector(Z, n, 0, 40), p, 2000)

    def test_known_vectors(self):
        self.assertEqual(lift(NONE, (), 2, 1), ())
        self.assertEqual(lift(integers((3,)), (1,), 2, 3), (3,))
        self.assertEqual(lift(integers((1,)), (-1,), 5, 2), (24,))
        self.assertEqual(lift(integers((1,)), (26,), 5, 2), (1,))
        self.assertEqual(lift(integers((2, 1), (1, 1)), (1, 0), 3, 1), (1, 2))

    def test_solve_by_lifting(self):
        take = Sample(238)
        for a in squares(238, 8):
            n = a[0]
            if n == 0:
                continue
            b = take.vector(Z, n, 0, 2)
            d = determinant_of(Z, a)
            if d == 0:
                with self.assertRaises(SingularError):
                    solve_by_lifting(a, b)
                continue
            answer = solve_by_lifting(a, b)
            self.assertIs(type(answer), tuple)
            x, p, k = answer
            self.assertEqual(x, solve(Q, whole(a), tuple((c, 1) for c in b)))
            self.assertTrue(is_matrix(Q, (1, n, (x,))))
            self.assertEqual(p, next(q for q in PRIMES if d % q))
            bound = 1
            for row, c in zip(a[2], b):
                bound *= isqrt(sum(y * y for y in row) + c * c) + 1
            self.assertGreater(p ** k, 2 * bound * bound)
            self.assertTrue(k == 1 or p ** (k - 1) <= 2 * bound * bound)

    def test_known_solutions(self):
        self.assertEqual(solve_by_lifting(integers((2,)), (1,)), (((1, 2),), FIRST, 1))
        self.assertEqual(solve_by_lifting(integers((FIRST,)), (1,)), (((1, FIRST),), PRIMES[1], 3))
        self.assertEqual(solve_by_lifting(integers((FIRST * PRIMES[1],)), (0,))[:2], (((0, 1),), PRIMES[2]))
        self.assertEqual(solve_by_lifting(integers((1, 0), (0, -3)), (0, 0))[0], ((0, 1), (0, 1)))
        # 2 B B is 2 * 128 ** 2 = 32768 for B = 128, and more than the first prime from 129 on.
        self.assertEqual(solve_by_lifting(integers((127,)), (0,)), (((0, 1),), FIRST, 1))
        self.assertEqual(solve_by_lifting(integers((128,)), (0,)), (((0, 1),), FIRST, 2))

    def test_sizes(self):
        for a, b in ((zero_matrix(Z, 1, 2), (0,)), (zero_matrix(Z, 2, 1), (0, 0)), (identity(Z, 2), (0,)),
                     (identity(Z, 2), (0, 0, 0)), (zero_matrix(Z, 2, 2), (1,)), (zero_matrix(Z, 0, 1), ())):
            with self.assertRaises(ShapeError):
                lift(a, b, 2, 1)
            with self.assertRaises(ShapeError):
                solve_by_lifting(a, b)
        for a in (zero_matrix(Z, 1, 1), integers((1, 2), (2, 4)), zero_matrix(Z, 10, 10)):
            with self.assertRaises(SingularError):
                lift(a, (0,) * a[0], 7, 1)
            with self.assertRaises(SingularError):
                solve_by_lifting(a, (0,) * a[0])
            with self.assertRaises(SingularError):
                hermite_by_modulus(a)
        with self.assertRaises(SingularError):
            lift(integers((10,)), (1,), 5, 3)


class HermiteTest(unittest.TestCase):
    """Points 87 and 88."""

    def test_hermite_by_modulus(self):
        for a in squares(239, 25):
            if determinant_of(Z, a):
                h = hermite_by_modulus(a)
                self.assertTrue(is_matrix(Z, h))
                self.assertEqual(h, hermite(Z, a)[0])
            else:
                with self.assertRaises(SingularError):
                    hermite_by_modulus(a)

    def test_all_small_matrices(self):
        for numbers in product(range(-3, 4), repeat=4):
            a = integers(numbers[:2], numbers[2:])
            if numbers[0] * numbers[3] != numbers[1] * numbers[2]:
                self.assertEqual(hermite_by_modulus(a), hermite(Z, a)[0])

    def test_known_forms(self):
        self.assertEqual(hermite_by_modulus(NONE), NONE)
        self.assertEqual(hermite_by_modulus(integers((-4,))), integers((4,)))
        self.assertEqual(hermite_by_modulus(integers((2, 3), (4, 4))), integers((2, 1), (0, 2)))
        self.assertEqual(hermite_by_modulus(identity(Z, 4)), identity(Z, 4))
        self.assertEqual(hermite_by_modulus(integers((0, 6), (6, 0))), integers((6, 0), (0, 6)))
        self.assertEqual(hermite_by_modulus(integers((BIG, 0), (1, BIG))), integers((1, BIG), (0, BIG * BIG)))
        # The determinant is a pivot, alone or several times.
        self.assertEqual(hermite_by_modulus(integers((0, 0, 7), (1, 0, 0), (0, 1, 0))),
                         integers((1, 0, 0), (0, 1, 0), (0, 0, 7)))
        self.assertEqual(hermite_by_modulus(integers((7, 0), (3, 1))), integers((1, 5), (0, 7)))


class ArgumentsTest(unittest.TestCase):
    """Point 2."""

    def test_arguments_stay_and_answers_repeat(self):
        take = Sample(240)
        a, b = take.matrix(Z, 4, 4, 0, 3), take.vector(Z, 4, 0, 3)
        copies = (4, 4, tuple(tuple(row) for row in a[2])), tuple(b)
        for function in (determinant_bound, coefficient_bound, determinant_by_primes, characteristic_by_primes,
                         rank_by_primes, hermite_by_modulus):
            self.assertEqual(function(a), function(a))
        self.assertEqual(lift(a, b, FIRST, 9), lift(a, b, FIRST, 9))
        self.assertEqual(solve_by_lifting(a, b), solve_by_lifting(a, b))
        first = primes_for(10 ** 20)
        first.append(0)
        self.assertEqual(primes_for(10 ** 20), PRIMES[:5])
        self.assertEqual((a, b), copies)


if __name__ == "__main__":
    unittest.main()
