"""Points 108 to 111: the Jordan form."""

import unittest

from echelon.domains import (
    divide, from_integer, is_element, multiply, negate, one, power, zero,
)
from echelon.elimination import rank
from echelon.errors import DomainError, ShapeError
from echelon.factoring import roots
from echelon.jordan import eigenvalues, is_diagonal, jordan, jordan_block, unsplit
from echelon.matrices import (
    diagonal, identity, is_matrix, matrix_power, minus, scaled, times, zero_matrix,
)
from echelon.operators import characteristic, companion, minimal
from tests.sample import EUCLIDEAN, FIELDS, NO_DOMAINS, Sample
from tests.test_operators import all_small, block, fractions, mixed, samples, whole

Q = ("Q",)
F2 = ("F", 2)
F3 = ("F", 3)
F7 = ("F", 7)
LARGE = ("F", 65521)
BIG = 10 ** 39 + 7


def value(f, x):
    """What eigenvalues are ordered by."""
    return (x[0] * 10 ** 200 // x[1], x) if f == Q else x


def by_ranks(f, a, x):
    """The sizes of the blocks of an eigenvalue, descending, by the ranks of powers of a less x."""
    less = minus(f, a, scaled(f, x, identity(f, a[0])))
    ranks = [rank(f, matrix_power(f, less, k)) for k in range(a[0] + 2)]
    out = []
    for k in range(a[0], 0, -1):
        out += [k] * ((ranks[k - 1] - ranks[k]) - (ranks[k] - ranks[k + 1]))
    return out


def product_of_factors(f, pairs):
    """The product of the powers of the variable less x, for pairs (x, k)."""
    d = ("P", f)
    total = one(d)
    for x, k in pairs:
        total = multiply(d, total, power(d, (negate(f, x), one(f)), k))
    return total


class FormTest(unittest.TestCase):
    def check(self, f, a):
        """What is looked at in all answers."""
        n = a[0]
        g = characteristic(f, a)
        pairs = eigenvalues(f, a)
        self.assertIs(type(pairs), list)
        self.assertEqual(pairs, roots(f, g))
        keys = [value(f, x) for x, _ in pairs]
        self.assertEqual(keys, sorted(set(keys)))
        rest, over = divide(("P", f), g, product_of_factors(f, pairs))
        self.assertEqual(over, ())
        self.assertEqual(roots(f, rest), [])
        form = jordan(f, a)
        if len(rest) > 1:
            self.assertIsNone(form)
            self.assertEqual(unsplit(f, a), rest)
            self.assertGreaterEqual(len(rest), 3)
            self.assertIs(is_diagonal(f, a), False)
            return None
        self.assertIsNone(unsplit(f, a))
        blocks, j, t, s = form
        self.assertIs(type(form), tuple)
        self.assertIs(type(blocks), tuple)
        expected = []
        for x, _ in pairs:
            expected += [(x, k) for k in by_ranks(f, a, x)]
        self.assertEqual(blocks, tuple(expected))
        for b in (j, t, s):
            self.assertTrue(is_matrix(f, b))
            self.assertEqual(b[:2], (n, n))
        self.assertEqual(j, diagonal(f, [block(f, x, k) for x, k in blocks]))
        self.assertEqual(times(f, a, t), times(f, t, j))
        self.assertEqual(times(f, t, s), identity(f, n))
        self.assertIs(is_diagonal(f, a), all(k == 1 for _, k in blocks))
        return blocks


class JordanTest(FormTest):
    """Points 108 to 111."""

    def test_samples(self):
        for f, a in samples(191, 8):
            self.check(f, a)

    def test_all_small_matrices(self):
        for p, n in ((2, 2), (2, 3), (3, 2)):
            for a in all_small(p, n):
                self.check(("F", p), a)

    def test_chosen_blocks(self):
        take = Sample(192)
        for f in FIELDS:
            many = 2 if f == F2 else 3
            for sizes in (((1,),), ((2,),), ((3, 1),), ((2, 2, 1),), ((1, 1), (2,)), ((2, 1), (3,)),
                          ((1, 1, 1), (1,)), ((4,), (1,), (1, 1)), ((2,), (2,), (2,)), ((3, 3, 2),)):
                if len(sizes) > many:
                    continue
                values = []
                while len(values) < len(sizes):
                    x = take.number(f, 1)
                    if x not in values:
                        values.append(x)
                values = sorted(values, key=lambda x: value(f, x))
                blocks = [(x, k) for x, line in zip(values, sizes) for k in line]
                a = mixed(f, take, diagonal(f, [block(f, x, k) for x, k in blocks[::-1]]))
                self.assertEqual(self.check(f, a), tuple(blocks))

    def test_fractions_ascend_by_their_values(self):
        values = [(-5, 2), (-7, 3), (-1, 3), (0, 1), (1, 10), (1, 9), (2, 3), (3, 4), (1, 1)]
        a = diagonal(Q, [block(Q, x, 1) for x in values[::-1]])
        self.assertEqual(eigenvalues(Q, a), [(x, 1) for x in values])
        self.assertEqual(self.check(Q, a), tuple((x, 1) for x in values))
        take = Sample(193)
        a = diagonal(Q, [block(Q, (1, 2), 2), block(Q, (1, 3), 1), block(Q, (1, 3), 2), block(Q, (-1, 2), 1)])
        self.assertEqual(self.check(Q, mixed(Q, take, a)), (((-1, 2), 1), ((1, 3), 2), ((1, 3), 1), ((1, 2), 2)))
        self.assertEqual(eigenvalues(Q, a), [((-1, 2), 1), ((1, 3), 3), ((1, 2), 2)])

    def test_large_numbers(self):
        take = Sample(194)
        for x, y in (((BIG, 1), (-BIG, 1)), ((1, BIG), (BIG, BIG - 1)), ((BIG, 3), (BIG + 1, 3))):
            a = mixed(Q, take, diagonal(Q, [block(Q, x, 2), block(Q, y, 1), block(Q, x, 1)]))
            self.check(Q, a)
        for f in FIELDS:
            x = from_integer(f, 5)
            self.check(f, mixed(f, take, diagonal(f, [block(f, x, 4), block(f, x, 4), block(f, zero(f), 2)])))
            self.check(f, take.matrix(f, 11, 11, 0, 1))

    def test_the_largest_field(self):
        x = 65520
        self.assertEqual(self.check(LARGE, diagonal(LARGE, [block(LARGE, x, 2), block(LARGE, 0, 1)])),
                         ((0, 1), (x, 2)))
        a = companion(LARGE, (LARGE[1] - 9, 0, 1))
        self.assertEqual(self.check(LARGE, a), ((3, 1), (65518, 1)))

    def test_known_forms(self):
        for f in FIELDS:
            empty = (0, 0, ())
            self.assertEqual(jordan(f, empty), ((), empty, empty, empty))
            self.assertEqual(eigenvalues(f, empty), [])
            self.assertIsNone(unsplit(f, empty))
            self.assertIs(is_diagonal(f, empty), True)
            x = from_integer(f, 3)
            self.assertEqual(self.check(f, scaled(f, x, identity(f, 4))), ((x, 1),) * 4)
            self.assertEqual(self.check(f, zero_matrix(f, 3, 3)), ((zero(f), 1),) * 3)
            self.assertEqual(self.check(f, block(f, x, 5)), ((x, 5),))
            self.assertEqual(self.check(f, companion(f, (zero(f),) * 3 + (one(f),))), ((zero(f), 3),))
        self.assertEqual(self.check(Q, fractions((2, 1), (0, 2))), (((2, 1), 2),))
        self.assertEqual(self.check(Q, fractions((1, 2), (2, 1))), (((-1, 1), 1), ((3, 1), 1)))
        self.assertEqual(self.check(F2, (2, 2, ((1, 1), (0, 1)))), ((1, 2),))

    def test_polynomials_that_do_not_split(self):
        self.assertEqual(unsplit(Q, fractions((1, 2), (3, 4))), whole(-2, -5, 1))
        self.assertEqual(unsplit(F2, companion(F2, (1, 1, 1))), (1, 1, 1))
        self.assertEqual(unsplit(F3, companion(F3, (1, 0, 1))), (1, 0, 1))
        # A factor of degree 1, several times, goes; the others stay, several times too.
        for f, g in ((Q, whole(-2, 0, 1)), (Q, whole(1, 1, 0, 1)), (F2, (1, 1, 1)), (F3, (1, 0, 1)),
                     (F7, (4, 0, 1)), (LARGE, (LARGE[1] - 17, 0, 1))):
            x = one(f)
            a = diagonal(f, [block(f, x, 2), companion(f, g), companion(f, g), block(f, zero(f), 1)])
            self.assertIsNone(jordan(f, a))
            self.assertEqual(unsplit(f, a), multiply(("P", f), g, g))
            self.assertEqual(eigenvalues(f, a), [(zero(f), 1), (x, 2)])
            self.assertIs(is_diagonal(f, a), False)

    def test_diagonal_forms(self):
        take = Sample(195)
        for f in FIELDS:
            values = [zero(f), one(f), one(f), zero(f)]
            self.assertIs(is_diagonal(f, mixed(f, take, diagonal(f, [block(f, x, 1) for x in values]))), True)
            self.assertIs(is_diagonal(f, mixed(f, take, block(f, one(f), 2))), False)
        # x ** 2 + 1 has roots modulo 5 and 65521, and none modulo 3 and among the fractions.
        for f, holds in ((Q, False), (F3, False), (("F", 5), True), (LARGE, True), (F2, False)):
            turn = (2, 2, ((zero(f), negate(f, one(f))), (one(f), zero(f))))
            self.assertIs(is_diagonal(f, turn), holds)
        self.assertIs(is_diagonal(Q, fractions((0, 1), (1, 0))), True)
        self.assertIs(is_diagonal(F2, (2, 2, ((0, 1), (1, 0)))), False)


class BlockTest(unittest.TestCase):
    """Point 108: jordan_block."""

    def test_blocks(self):
        for f in FIELDS:
            for x in (zero(f), one(f), from_integer(f, 5)):
                for k in (1, 2, 3, 10, 12):
                    self.assertEqual(jordan_block(f, x, k), block(f, x, k))
        self.assertEqual(jordan_block(Q, (1, 2), 2), (2, 2, (((1, 2), (1, 1)), ((0, 1), (1, 2)))))
        self.assertEqual(jordan_block(F7, 3, 3), (3, 3, ((3, 1, 0), (0, 3, 1), (0, 0, 3))))

    def test_polynomials_of_blocks(self):
        for f in FIELDS:
            for k in (1, 2, 4):
                x = from_integer(f, 5)
                g = product_of_factors(f, [(x, k)])
                self.assertEqual(characteristic(f, jordan_block(f, x, k)), g)
                self.assertEqual(minimal(f, jordan_block(f, x, k)), g)


class ErrorTest(unittest.TestCase):
    """Point 6 for these functions."""

    def test_domains_that_are_none_or_no_fields(self):
        for d in NO_DOMAINS + EUCLIDEAN:
            for a in ((0, 0, ()), (1, 1, ((1,),)), (1, 2, ((1, 1),))):
                for function in (eigenvalues, jordan, unsplit, is_diagonal):
                    with self.assertRaises(DomainError):
                        function(d, a)
            with self.assertRaises(DomainError):
                jordan_block(d, 1, 2)

    def test_matrices_that_are_not_square(self):
        for f in FIELDS:
            for m, n in ((1, 2), (2, 1), (0, 1), (3, 0)):
                for function in (eigenvalues, jordan, unsplit, is_diagonal):
                    with self.assertRaises(ShapeError):
                        function(f, zero_matrix(f, m, n))

    def test_arguments_stay_and_answers_repeat(self):
        take = Sample(196)
        for f in FIELDS:
            a = mixed(f, take, diagonal(f, [block(f, one(f), 2), block(f, zero(f), 1)]))
            copy = a[0], a[1], tuple(tuple(row) for row in a[2])
            for function in (eigenvalues, jordan, unsplit, is_diagonal):
                first = function(f, a)
                self.assertEqual(function(f, a), first)
                self.assertEqual(a, copy)

    def test_values_are_elements(self):
        for f, a in samples(197, 4):
            for x, k in eigenvalues(f, a):
                self.assertTrue(is_element(f, x))
                self.assertIs(type(k), int)
            g = unsplit(f, a)
            if g is not None:
                self.assertTrue(is_element(("P", f), g))
                self.assertEqual(g[-1], one(f))


if __name__ == "__main__":
    unittest.main()
