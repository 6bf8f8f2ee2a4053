"""Points 4 and 35 to 39: matrices."""

import unittest

from echelon.domains import (
    add, from_integer, is_element, multiply, negate, one, power, quotient, subtract, zero,
)
from echelon.errors import DomainError, ShapeError
from echelon.matrices import (
    applied, below, beside, change, diagonal, evaluated, identity, is_matrix, matrix, matrix_power,
    minus, part, plus, row_times, scaled, times, trace, transposed, zero_matrix,
)
from tests.sample import DOMAINS, EUCLIDEAN, FIELDS, NO_DOMAINS, POLYNOMIALS, Sample

Z = ("Z",)
Q = ("Q",)
F2 = ("F", 2)
F7 = ("F", 7)
PQ = ("P", Q)
P7 = ("P", F7)
BIG = 10 ** 40


def integers(*rows):
    """The matrix over the integers with these rows, of which there is at least one."""
    return len(rows), len(rows[0]), tuple(rows)


def product_of(d, a, b):
    """The product of two matrices, by the sums of products."""
    rows = []
    for i in range(a[0]):
        row = []
        for j in range(b[1]):
            total = zero(d)
            for k in range(a[1]):
                total = add(d, total, multiply(d, a[2][i][k], b[2][k][j]))
            row.append(total)
        rows.append(tuple(row))
    return a[0], b[1], tuple(rows)


class IsMatrixTest(unittest.TestCase):
    """Points 4 and 35: is_matrix."""

    def test_matrices(self):
        take = Sample(81)
        for d in DOMAINS:
            for m, n in take.sizes(15, 11):
                self.assertIs(is_matrix(d, take.matrix(d, m, n)), True)

    def test_without_entries(self):
        for d in DOMAINS:
            for a in ((0, 0, ()), (0, 3, ()), (2, 0, ((), ())), (0, BIG, ())):
                self.assertIs(is_matrix(d, a), True)
            for a in ((0, 0, ((),)), (1, 0, ()), (2, 0, ((),)), (0, -1, ()), (-1, 0, ()),
                      (-1, -1, ()), (0, 0, []), (0, 0), (), (0, 0, (), ()), (BIG, 0, ()),
                      (False, 0, ()), (0, False, ()), (0, 0, None), (None, 0, ()), ("", 0, ())):
                self.assertIs(is_matrix(d, a), False, a)

    def test_no_matrices(self):
        good = ((1, 2), (3, 4))
        self.assertIs(is_matrix(Z, (2, 2, good)), True)
        for a in (None, True, 0, "", "a", good, [2, 2, good], (2, 2, list(good)), (2, 2),
                  (2, 2, ([1, 2], [3, 4])), (2, 2, ((1, 2), [3, 4])), (3, 2, good), (1, 2, good),
                  (2, 3, good), (2, 1, good), (2, 2, good, ()), (2, 2, ((1, 2), (3,))),
                  (2, 2, ((1,), (3, 4))), (2, 2, ((1, 2, 3), (4,))), (2, 2, (1, 2, 3, 4)),
                  (2, 2, (1, 2)), (2, 2, ((1, 2), 3)), (2, 2, ((1, 2), None)), ("2", 2, good),
                  (2, "2", good), (2, (2,), good), (2, 2, "ab"), (2, 2, ("ab", "cd"))):
            self.assertIs(is_matrix(Z, a), False, a)

    def test_truth_values_are_no_integers(self):
        self.assertIs(is_matrix(Z, (1, 1, ((1,),))), True)
        for a in ((True, 1, ((1,),)), (1, True, ((1,),)), (1, 1, ((True,),)), (1, 1, ((False,),))):
            self.assertIs(is_matrix(Z, a), False)
        self.assertIs(is_matrix(Q, (1, 1, (((True, 1),),))), False)
        self.assertIs(is_matrix(F2, (1, 2, ((1, True),))), False)
        self.assertIs(is_matrix(("P", F2), (1, 1, (((True,),),))), False)

    def test_entries_that_are_no_elements(self):
        for d, good, bad in ((Z, -5, (1, 1)), (Q, (1, 2), (2, 4)), (Q, (0, 1), 0), (F7, 6, 7),
                             (F7, 0, -1), (P7, (1, 2), (1, 0)), (P7, (), (7,)), (PQ, (), ((0, 1),)),
                             (PQ, ((1, 2),), (1, 2)), (Z, 0, None), (Z, 1, "1"), (Z, 1, [1])):
            self.assertIs(is_matrix(d, (1, 2, ((good, good),))), True)
            self.assertIs(is_matrix(d, (1, 2, ((good, bad),))), False)
            self.assertIs(is_matrix(d, (2, 1, ((bad,), (good,)))), False)

    def test_no_domain(self):
        for d in NO_DOMAINS:
            for a in ((0, 0, ()), (1, 1, ((0,),)), None, d):
                with self.assertRaises(DomainError):
                    is_matrix(d, a)


class MakingTest(unittest.TestCase):
    """Point 35: matrix, identity and zero_matrix."""

    def test_matrix(self):
        rows = [[1, 2, 3], [4, 5, 6]]
        self.assertEqual(matrix(Z, rows, 3), (2, 3, ((1, 2, 3), (4, 5, 6))))
        self.assertEqual(rows, [[1, 2, 3], [4, 5, 6]])
        self.assertEqual(matrix(Q, [], 4), (0, 4, ()))
        self.assertEqual(matrix(P7, [[], []], 0), (2, 0, ((), ())))
        take = Sample(82)
        for d in DOMAINS:
            for m, n in take.sizes(15, 10):
                a = take.matrix(d, m, n)
                listed = [list(row) for row in a[2]]
                self.assertEqual(matrix(d, listed, n), a)
                self.assertTrue(is_matrix(d, matrix(d, listed, n)))
                for row in listed:
                    row.append(zero(d))
                self.assertEqual(len(listed), m)

    def test_rows_of_another_length(self):
        for rows, n in (([[1, 2], [3]], 2), ([[1], [2, 3]], 1), ([[1, 2]], 3), ([[]], 1), ([[1]], 0)):
            with self.assertRaises(ShapeError):
                matrix(Z, rows, n)

    def test_identity_and_zero(self):
        for d in DOMAINS:
            for n in (0, 1, 2, 3, 12):
                a = identity(d, n)
                self.assertTrue(is_matrix(d, a))
                self.assertEqual(a[:2], (n, n))
                for i in range(n):
                    for j in range(n):
                        self.assertEqual(a[2][i][j], one(d) if i == j else zero(d))
            for m, n in ((0, 0), (0, 3), (3, 0), (2, 3), (11, 1)):
                a = zero_matrix(d, m, n)
                self.assertTrue(is_matrix(d, a))
                self.assertEqual(a, (m, n, ((zero(d),) * n,) * m))

    def test_domain_error_comes_first(self):
        for d in NO_DOMAINS:
            with self.assertRaises(DomainError):
                matrix(d, [[1, 2], [3]], 2)
            with self.assertRaises(DomainError):
                matrix(d, [], 0)
            with self.assertRaises(DomainError):
                identity(d, 0)
            with self.assertRaises(DomainError):
                zero_matrix(d, 0, 0)


class ArithmeticTest(unittest.TestCase):
    """Point 36."""

    def test_sums(self):
        take = Sample(83)
        for d in DOMAINS:
            for m, n in take.sizes(13, 6):
                a, b, x = take.matrix(d, m, n, 4, 40), take.matrix(d, m, n), take.one_of(d)
                self.assertTrue(is_matrix(d, plus(d, a, b)))
                for answer, rule in ((plus(d, a, b), add), (minus(d, a, b), subtract)):
                    self.assertEqual(answer[:2], (m, n))
                    for i in range(m):
                        for j in range(n):
                            self.assertEqual(answer[2][i][j], rule(d, a[2][i][j], b[2][i][j]))
                rows = tuple(tuple(multiply(d, x, y) for y in row) for row in a[2])
                self.assertEqual(scaled(d, x, a), (m, n, rows))

    def test_products(self):
        take = Sample(84)
        for d in DOMAINS:
            for m, n in take.sizes(13, 4):
                for k in (0, 1, 3):
                    a, b = take.matrix(d, m, n), take.matrix(d, n, k)
                    answer = times(d, a, b)
                    self.assertTrue(is_matrix(d, answer))
                    self.assertEqual(answer, product_of(d, a, b))

    def test_large_products(self):
        take = Sample(85)
        for d in ((Z,) + FIELDS):
            a, b = take.matrix(d, 11, 10, 0, 40), take.matrix(d, 10, 11, 0, 40)
            self.assertEqual(times(d, a, b), product_of(d, a, b))
        for d in POLYNOMIALS:
            a, b = take.matrix(d, 5, 5, 6, 40), take.matrix(d, 5, 5, 6, 3)
            self.assertEqual(times(d, a, b), product_of(d, a, b))

    def test_known_products(self):
        a, b = integers((1, 2), (3, 4)), integers((0, 1), (1, 0))
        self.assertEqual(times(Z, a, b), integers((2, 1), (4, 3)))
        self.assertEqual(times(Z, b, a), integers((3, 4), (1, 2)))
        self.assertEqual(times(Z, zero_matrix(Z, 2, 0), zero_matrix(Z, 0, 3)), zero_matrix(Z, 2, 3))
        self.assertEqual(times(Z, zero_matrix(Z, 0, 2), a), (0, 2, ()))
        self.assertEqual(times(F2, integers((1, 1)), integers((1,), (1,))), integers((0,)))

    def test_transposed(self):
        take = Sample(86)
        for m, n in take.sizes(20, 10):
            a = take.matrix(Z, m, n)
            answer = transposed(a)
            self.assertEqual(answer[:2], (n, m))
            self.assertTrue(is_matrix(Z, answer))
            for i in range(m):
                for j in range(n):
                    self.assertEqual(answer[2][j][i], a[2][i][j])
            self.assertEqual(transposed(answer), a)
        self.assertEqual(transposed((0, 2, ())), (2, 0, ((), ())))

    def test_vectors(self):
        take = Sample(87)
        for d in DOMAINS:
            for m, n in take.sizes(12, 5):
                a, v, w = take.matrix(d, m, n), take.vector(d, n), take.vector(d, m)
                column = product_of(d, a, (n, 1, tuple((x,) for x in v)))
                self.assertEqual(applied(d, a, v), tuple(row[0] for row in column[2]))
                row = product_of(d, (1, m, (w,)), a)
                self.assertEqual(row_times(d, w, a), row[2][0])
        self.assertEqual(applied(Z, integers((1, 2), (3, 4)), (5, 6)), (17, 39))
        self.assertEqual(row_times(Z, (5, 6), integers((1, 2), (3, 4))), (23, 34))
        self.assertEqual(applied(Q, (2, 0, ((), ())), ()), ((0, 1), (0, 1)))
        self.assertEqual(row_times(PQ, (), (0, 2, ())), ((), ()))

    def test_powers(self):
        take = Sample(88)
        for d in DOMAINS:
            for n in (0, 1, 2, 3):
                a = take.matrix(d, n, n, 2, 1)
                expected = identity(d, n)
                for k in range(21 if n < 3 else 6):
                    self.assertEqual(matrix_power(d, a, k), expected)
                    expected = product_of(d, expected, a)
        self.assertEqual(matrix_power(Z, integers((1, 1), (1, 0)), 20),
                         integers((10946, 6765), (6765, 4181)))
        self.assertEqual(matrix_power(Z, zero_matrix(Z, 3, 3), 0), identity(Z, 3))
        a = take.matrix(("F", 65521), 10, 10)
        both = times(("F", 65521), matrix_power(("F", 65521), a, 13), matrix_power(("F", 65521), a, 7))
        self.assertEqual(matrix_power(("F", 65521), a, 20), both)

    def test_sizes_that_do_not_fit(self):
        a = zero_matrix(Z, 2, 3)
        for b in ((2, 2, ((0, 0), (0, 0))), (3, 2, ((0, 0),) * 3), (0, 3, ()), (2, 0, ((), ())),
                  zero_matrix(Z, 3, 3), (0, 0, ())):
            for call in (plus, minus):
                with self.assertRaises(ShapeError):
                    call(Z, a, b)
                with self.assertRaises(ShapeError):
                    call(Z, b, a)
        for b in (a, (2, 0, ((), ())), (0, 3, ()), zero_matrix(Z, 4, 3)):
            with self.assertRaises(ShapeError):
                times(Z, a, b)
        for v in ((), (1,), (1, 2), (1, 2, 3, 4)):
            with self.assertRaises(ShapeError):
                applied(Z, a, v)
        for v in ((), (1,), (1, 2, 3)):
            with self.assertRaises(ShapeError):
                row_times(Z, v, a)
        for b in (a, (0, 1, ()), (1, 0, ((),))):
            for k in (0, 1, 2, 20):
                with self.assertRaises(ShapeError):
                    matrix_power(Z, b, k)

    def test_domain_error_comes_first(self):
        a, b = zero_matrix(Z, 2, 3), zero_matrix(Z, 0, 2)
        for d in NO_DOMAINS:
            for call in (lambda: plus(d, a, b), lambda: minus(d, a, b), lambda: times(d, a, b),
                         lambda: scaled(d, 1, a), lambda: applied(d, a, ()),
                         lambda: row_times(d, (), a), lambda: matrix_power(d, a, 0),
                         lambda: plus(d, b, b), lambda: times(d, b, a), lambda: scaled(d, 1, b),
                         lambda: applied(d, b, (1, 2)), lambda: row_times(d, (), b)):
                with self.assertRaises(DomainError):
                    call()


class PartsTest(unittest.TestCase):
    """Point 37."""

    def test_beside_and_below(self):
        a, b = integers((1, 2), (3, 4)), integers((5,), (6,))
        self.assertEqual(beside(a, b), integers((1, 2, 5), (3, 4, 6)))
        self.assertEqual(below(a, integers((5, 6))), integers((1, 2), (3, 4), (5, 6)))
        self.assertEqual(beside((0, 2, ()), (0, 3, ())), (0, 5, ()))
        self.assertEqual(below((2, 0, ((), ())), (1, 0, ((),))), (3, 0, ((), (), ())))
        self.assertEqual(beside(a, (2, 0, ((), ()))), a)
        self.assertEqual(below((0, 2, ()), a), a)
        take = Sample(89)
        for m, n in take.sizes(20, 6):
            a, b = take.matrix(Q, m, n), take.matrix(Q, m, 3)
            self.assertTrue(is_matrix(Q, beside(a, b)))
            self.assertEqual(transposed(beside(a, b)), below(transposed(a), transposed(b)))

    def test_unlike_sizes(self):
        for call, a, b in ((beside, (2, 1, ((1,), (2,))), (1, 1, ((1,),))), (beside, (0, 1, ()), (1, 0, ((),))),
                           (below, (1, 2, ((1, 2),)), (1, 1, ((1,),))), (below, (0, 1, ()), (0, 2, ()))):
            with self.assertRaises(ShapeError):
                call(a, b)
            with self.assertRaises(ShapeError):
                call(b, a)

    def test_part(self):
        a = integers((1, 2, 3), (4, 5, 6))
        self.assertEqual(part(a, [1, 0], [2, 0]), integers((6, 4), (3, 1)))
        self.assertEqual(part(a, [1, 1, 1], [0]), integers((4,), (4,), (4,)))
        self.assertEqual(part(a, [0], [1, 1, 2, 1]), integers((2, 2, 3, 2)))
        self.assertEqual(part(a, [], [0, 1]), (0, 2, ()))
        self.assertEqual(part(a, [0, 1], []), (2, 0, ((), ())))
        self.assertEqual(part((0, 2, ()), [], [1, 1, 0]), (0, 3, ()))
        rows, columns = [1, 0], [2, 2]
        self.assertTrue(is_matrix(Z, part(a, rows, columns)))
        self.assertEqual((rows, columns), ([1, 0], [2, 2]))

    def test_numbers_that_are_none(self):
        a = integers((1, 2, 3), (4, 5, 6))
        for rows, columns in (([2], [0]), ([0], [3]), ([-1], [0]), ([0], [-1]), ([0, 1, 2], [0]),
                              ([BIG], [0]), ([], [3]), ([2], []), ([-BIG], []), ([], [-3])):
            with self.assertRaises(ShapeError):
                part(a, rows, columns)
        for rows, columns in (([0], []), ([], [2])):
            with self.assertRaises(ShapeError):
                part((0, 2, ()), rows, columns)

    def test_diagonal(self):
        self.assertEqual(diagonal(Z, []), (0, 0, ()))
        blocks = [integers((1, 2), (3, 4)), integers((5,)), (0, 0, ()), integers((6,))]
        before = list(blocks)
        expected = integers((1, 2, 0, 0), (3, 4, 0, 0), (0, 0, 5, 0), (0, 0, 0, 6))
        self.assertEqual(diagonal(Z, blocks), expected)
        self.assertEqual(blocks, before)
        self.assertEqual(diagonal(Z, [integers((1, 2)), integers((3,), (4,))]),
                         integers((1, 2, 0), (0, 0, 3), (0, 0, 4)))
        self.assertEqual(diagonal(Z, [(0, 2, ()), integers((7,)), (1, 0, ((),))]),
                         integers((0, 0, 7), (0, 0, 0)))
        for d in DOMAINS:
            self.assertEqual(diagonal(d, [identity(d, 2), identity(d, 3)]), identity(d, 5))

    def test_trace(self):
        take = Sample(90)
        for d in DOMAINS:
            self.assertEqual(trace(d, (0, 0, ())), zero(d))
            for n in (1, 2, 4, 10):
                a = take.matrix(d, n, n, 3, 40)
                total = zero(d)
                for k in range(n):
                    total = add(d, total, a[2][k][k])
                self.assertEqual(trace(d, a), total)
        for a in ((0, 1, ()), (1, 0, ((),)), integers((1, 2)), integers((1,), (2,))):
            with self.assertRaises(ShapeError):
                trace(Z, a)

    def test_domain_error_comes_first(self):
        for d in NO_DOMAINS:
            for a in ((0, 1, ()), (0, 0, ()), integers((1, 2))):
                with self.assertRaises(DomainError):
                    trace(d, a)
                with self.assertRaises(DomainError):
                    diagonal(d, [a])
            with self.assertRaises(DomainError):
                diagonal(d, [])


class ChangeTest(unittest.TestCase):
    """Point 38."""

    def test_same_domain(self):
        take = Sample(91)
        for d in DOMAINS:
            for m, n in take.sizes(10, 4):
                a = take.matrix(d, m, n)
                self.assertEqual(change(d, d, a), a)

    def test_changes(self):
        a = integers((0, -1), (8, BIG))
        self.assertEqual(change(Z, Q, a), (2, 2, (((0, 1), (-1, 1)), ((8, 1), (BIG, 1)))))
        self.assertEqual(change(Z, F7, a), (2, 2, ((0, 6), (1, BIG % 7))))
        self.assertEqual(change(Q, Z, change(Z, Q, a)), a)
        b = (1, 3, (((1, 2), (-3, 5), (7, 1)),))
        self.assertEqual(change(Q, F7, b), (1, 3, ((4, 5, 0),)))
        self.assertEqual(change(Q, PQ, b), (1, 3, ((((1, 2),), ((-3, 5),), ((7, 1),)),)))
        self.assertEqual(change(Q, PQ, (1, 1, (((0, 1),),))), (1, 1, (((),),)))
        self.assertEqual(change(F7, P7, integers((0, 3))), (1, 2, (((), (3,)),)))

    def test_fractions_modulo_primes(self):
        take = Sample(92)
        for f in FIELDS[1:]:
            for _ in range(30):
                x = take.fraction(40)
                if x[1] % f[1]:
                    expected = quotient(f, from_integer(f, x[0]), from_integer(f, x[1]))
                    self.assertEqual(change(Q, f, (1, 1, ((x,),))), (1, 1, ((expected,),)))

    def test_matrices_without_entries(self):
        for a in ((0, 0, ()), (0, 2, ()), (2, 0, ((), ()))):
            for d, e in ((Z, Q), (Z, F7), (Q, Z), (Q, F7), (Q, PQ), (F7, P7)):
                self.assertEqual(change(d, e, a), a)

    def test_changes_that_do_not_go_through(self):
        for x in ((1, 2), (-3, 7), (1, BIG)):
            with self.assertRaises(DomainError):
                change(Q, Z, (1, 2, (((1, 1), x),)))
        for x in ((1, 7), (3, 14), (1, 7 ** 40)):
            with self.assertRaises(DomainError):
                change(Q, F7, (1, 2, (((1, 1), x),)))

    def test_changes_that_are_not_named(self):
        named = [(Z, Q)] + [(Q, Z)] + [(f, ("P", f)) for f in FIELDS]
        named += [(d, f) for d in (Z, Q) for f in FIELDS[1:]] + [(d, d) for d in DOMAINS]
        empty, full = (0, 2, ()), {"Z": 1, "Q": (1, 1), "F": 1}
        for d in DOMAINS:
            for e in DOMAINS:
                if (d, e) not in named:
                    with self.assertRaises(DomainError):
                        change(d, e, empty)
                    with self.assertRaises(DomainError):
                        change(d, e, (1, 1, ((full.get(d[0], one(d)),),)))

    def test_no_domains(self):
        for d in NO_DOMAINS:
            for e in (Z, Q, d):
                with self.assertRaises(DomainError):
                    change(d, e, (0, 0, ()))
                with self.assertRaises(DomainError):
                    change(e, d, (0, 0, ()))


class EvaluatedTest(unittest.TestCase):
    """Point 39."""

    def test_sums_of_powers(self):
        take = Sample(93)
        for f in FIELDS:
            for n in (0, 1, 2, 4):
                for size in (-1, 0, 1, 3, 6):
                    a, g = take.matrix(f, n, n), take.polynomial(f, size, 2)
                    expected = zero_matrix(f, n, n)
                    for k, c in enumerate(g):
                        expected = plus(f, expected, scaled(f, c, matrix_power(f, a, k)))
                    answer = evaluated(f, g, a)
                    self.assertEqual(answer, expected)
                    self.assertTrue(is_matrix(f, answer))

    def test_known_values(self):
        a = (2, 2, (((1, 1), (1, 1)), ((1, 1), (0, 1))))
        self.assertEqual(evaluated(Q, ((-1, 1), (-1, 1), (1, 1)), a), zero_matrix(Q, 2, 2))
        self.assertEqual(evaluated(Q, (), a), zero_matrix(Q, 2, 2))
        self.assertEqual(evaluated(Q, ((3, 5),), (0, 0, ())), (0, 0, ()))
        self.assertEqual(evaluated(F7, (3,), integers((1, 2), (3, 4))), integers((3, 0), (0, 3)))

    def test_large_values(self):
        take = Sample(94)
        for f in FIELDS:
            a, g = take.matrix(f, 10, 10, 0, 2), take.polynomial(f, 10, 40)
            v = take.vector(f, 10)
            expected = (zero(f),) * 10
            moved = v
            for c in g:
                expected = tuple(add(f, x, multiply(f, c, y)) for x, y in zip(expected, moved))
                moved = applied(f, a, moved)
            self.assertEqual(applied(f, evaluated(f, g, a), v), expected)

    def test_errors(self):
        for a in ((0, 1, ()), (1, 0, ((),)), integers((1, 2))):
            with self.assertRaises(ShapeError):
                evaluated(F7, (1,), a)
            for f in NO_DOMAINS + EUCLIDEAN:
                with self.assertRaises(DomainError):
                    evaluated(f, (1,), a)
                with self.assertRaises(DomainError):
                    evaluated(f, (), (0, 0, ()))


class ResultsTest(unittest.TestCase):
    """Point 2: results are tuples of elements."""

    def test_results_are_plain(self):
        take = Sample(95)
        for d in DOMAINS:
            a = take.matrix(d, 2, 2)
            for b in (plus(d, a, a), minus(d, a, a), times(d, a, a), scaled(d, one(d), a), transposed(a),
                      matrix_power(d, a, 3), beside(a, a), below(a, a), part(a, [0], [1]),
                      diagonal(d, [a, a]), change(d, d, a)):
                self.assertIs(type(b), tuple)
                self.assertTrue(is_matrix(d, b))
            for v in (applied(d, a, (zero(d), one(d))), row_times(d, (zero(d), one(d)), a)):
                self.assertIs(type(v), tuple)
                self.assertTrue(all(is_element(d, x) for x in v))
            self.assertEqual(minus(d, a, a), zero_matrix(d, 2, 2))
            self.assertEqual(plus(d, a, scaled(d, negate(d, one(d)), a)), zero_matrix(d, 2, 2))
            self.assertEqual(matrix_power(d, (1, 1, a[2][:1])[:2] + ((a[2][0][:1],),), 9),
                             (1, 1, ((power(d, a[2][0][0], 9),),)))


if __name__ == "__main__":
    unittest.main()
