"""Points 120 to 128 and 131: lattices."""

import unittest
from fractions import Fraction
from itertools import product

from echelon.elimination import determinant, rank, solve
from echelon.errors import ShapeError, SingularError
from echelon.euclid import hermite, same_lattice
from echelon.lattices import (
    basis_of, coordinates, dual, index_in, intersection, is_reduced, orthogonal, outside,
    reduce_basis, sum_of, volume,
)
from echelon.matrices import (
    change, identity, is_matrix, row_times, times, transposed, zero_matrix,
)
from tests.sample import Sample, by_permutations

Z = ("Z",)
Q = ("Q",)
BIG = 10 ** 40


def integers(*rows):
    """The matrix over the integers with these rows, of which there is at least one."""
    return len(rows), len(rows[0]), tuple(rows)


def bases(start, many=40, largest=5):
    """Bases of all sizes, small and large ones, also without rows and without columns."""
    take = Sample(start)
    for n in (0, 1, 4, 10):
        yield 0, n, ()
    yield identity(Z, 4)
    for m, n in take.sizes(many, largest):
        for digits in (1, 2, 6):
            a = take.matrix(Z, m, n, 0, digits)
            if rank(Q, change(Z, Q, a)) == m:
                yield a
    for m, n, digits in ((10, 10, 40), (4, 10, 40), (1, 10, 40), (8, 9, 3), (10, 10, 1), (11, 11, 41)):
        yield take.matrix(Z, m, n, 0, digits)
    # Rows of quite unlike lengths, and rows that are nearly alike.
    yield integers((1, 0, 0), (0, BIG, 0), (0, 0, BIG * BIG))
    yield integers((1, 0, BIG), (0, 1, BIG + 1), (1, 1, 2 * BIG))
    yield integers((BIG, BIG + 1), (BIG - 1, BIG))


DEPENDENT = (
    (1, 0, ((),)), (3, 0, ((), (), ())), integers((0, 0)), integers((1, 2), (2, 4)),
    integers((1, 2), (3, 4), (5, 6)), integers((1, 2, 3), (4, 5, 6), (7, 8, 9)),
    integers((0,), (1,)), integers((1, 1, 0), (0, 0, 0)), integers((BIG, BIG), (-BIG, -BIG)),
)


def squares_of(b):
    return [sum(x * x for x in row) for row in b[2]]


def value(x):
    return Fraction(x[0], x[1])


def product_with(row, y):
    """The product of a vector of integers and one of fractions."""
    return sum((x * value(c) for x, c in zip(row, y)), Fraction(0))


class BasisTest(unittest.TestCase):
    """Point 121."""

    def test_rows_of_the_hermite_form(self):
        take = Sample(201)
        for m, n in take.sizes(30, 6):
            for a in (take.matrix(Z, m, n, 0, 1), take.matrix(Z, m, n, 0, 20), zero_matrix(Z, m, n),
                      times(Z, take.matrix(Z, m, 2, 0, 1), take.matrix(Z, 2, n, 0, 1))):
                b = basis_of(a)
                self.assertTrue(is_matrix(Z, b))
                rows = [row for row in hermite(Z, a)[0][2] if any(row)]
                self.assertEqual(b, (len(rows), n, tuple(rows)))
                self.assertTrue(same_lattice(a, b))
                self.assertEqual(basis_of(b), b)
                orthogonal(b)

    def test_known_bases(self):
        for a, b in ((integers((4,), (6,)), integers((2,))), (integers((-3, 1)), integers((3, -1))),
                     (integers((2, 0), (0, 2), (1, 1)), integers((1, 1), (0, 2))),
                     (integers((0, 0)), (0, 2, ())), ((0, 3, ()), (0, 3, ())), ((2, 0, ((), ())), (0, 0, ())),
                     (integers((BIG, 0), (BIG + 1, 0)), integers((1, 0)))):
            self.assertEqual(basis_of(a), b)


class OrthogonalTest(unittest.TestCase):
    """Point 122."""

    def test_rows_out_of_mu_and_squares(self):
        for b in bases(202):
            m = b[0]
            answer = orthogonal(b)
            self.assertIs(type(answer), tuple)
            mu, squares = answer
            self.assertTrue(is_matrix(Q, mu))
            self.assertEqual(mu[:2], (m, m))
            self.assertIs(type(squares), tuple)
            self.assertEqual(len(squares), m)
            vectors = []
            for i, row in enumerate(b[2]):
                self.assertEqual(mu[2][i][i:], ((1, 1),) + ((0, 1),) * (m - 1 - i))
                o = [Fraction(x) for x in row]
                for k in range(i):
                    o = [x - value(mu[2][i][k]) * y for x, y in zip(o, vectors[k])]
                for other in vectors:
                    self.assertEqual(sum(x * y for x, y in zip(o, other)), 0)
                vectors.append(o)
                square = sum(x * x for x in o)
                self.assertEqual(squares[i], (square.numerator, square.denominator))

    def test_known_values(self):
        self.assertEqual(orthogonal(integers((1, 1), (0, 1))),
                         ((2, 2, (((1, 1), (0, 1)), ((1, 2), (1, 1)))), ((2, 1), (1, 2))))
        self.assertEqual(orthogonal(integers((3, 4))), ((1, 1, (((1, 1),),)), ((25, 1),)))
        self.assertEqual(orthogonal((0, 2, ())), ((0, 0, ()), ()))


def is_reduced_by_definition(b):
    mu, squares = orthogonal(b)
    for i in range(b[0]):
        if any(abs(value(x)) > Fraction(1, 2) for x in mu[2][i][:i]):
            return False
        if i:
            side = value(mu[2][i][i - 1])
            if value(squares[i]) < (Fraction(3, 4) - side * side) * value(squares[i - 1]):
                return False
    return True


class ReducedTest(unittest.TestCase):
    """Points 123, 124 and 131."""

    def test_is_reduced(self):
        found = {True: 0, False: 0}
        for b in bases(203, 60, 4):
            expected = is_reduced_by_definition(b)
            self.assertIs(is_reduced(b), expected)
            found[expected] += 1
        self.assertGreater(min(found.values()), 10)

    def test_edges_of_is_reduced(self):
        # The shadow may be one half and not more; the square may be 3/4 less its square.
        for b, expected in ((integers((2, 0), (1, 2)), True), (integers((2, 0), (-1, 2)), True),
                            (integers((200, 0), (101, 200)), False), (integers((200, 0), (-101, 200)), False),
                            (integers((4, 0, 0, 0), (0, 2, 2, 2)), True),
                            (integers((4, 0, 0, 0), (0, 3, 1, 1)), False),
                            (integers((2, 0, 0), (1, 1, 1)), True), (integers((2, 0, 0), (1, 1, 0)), False),
                            (integers((1, 0, 0), (0, 1, 0), (1, 0, 1)), False),
                            (integers((1, 0, 0), (0, 1, 0), (0, 0, 1)), True),
                            (integers((5,)), True), ((0, 3, ()), True), (integers((0, -7)), True)):
            self.assertIs(is_reduced(b), expected, b)

    def test_reduce_basis(self):
        for b in bases(204):
            answer = reduce_basis(b)
            self.assertIs(type(answer), tuple)
            c, u, v = answer
            m, n = b[:2]
            for a, size in ((c, (m, n)), (u, (m, m)), (v, (m, m))):
                self.assertTrue(is_matrix(Z, a))
                self.assertEqual(a[:2], size)
            self.assertEqual(times(Z, u, b), c)
            self.assertEqual(times(Z, u, v), identity(Z, m))
            self.assertTrue(is_reduced_by_definition(c))
            self.assertTrue(same_lattice(b, c))

    def test_bounds_of_reduced_bases(self):
        for b in bases(205, 30, 4):
            m = b[0]
            if m == 0:
                continue
            c = reduce_basis(b)[0]
            squares = [value(x) for x in orthogonal(c)[1]]
            for first, second in zip(squares, squares[1:]):
                self.assertLessEqual(first, 2 * second)
            if m > 4:
                continue
            least = min(value(x) for x in orthogonal(b)[1])
            for x in product(range(-2, 3), repeat=m):
                if any(x):
                    v = row_times(Z, x, c)
                    square = sum(y * y for y in v)
                    self.assertLessEqual(sum(y * y for y in c[2][0]), 2 ** (m - 1) * square)
                    self.assertLessEqual(least, square)


class CoordinatesTest(unittest.TestCase):
    """Point 125."""

    def check(self, b, v):
        x, y = coordinates(b, v), outside(b, v)
        over = solve(Q, transposed(change(Z, Q, b)), tuple((c, 1) for c in v))
        if over is not None and all(c[1] == 1 for c in over):
            self.assertEqual(x, tuple(c[0] for c in over))
            self.assertEqual(row_times(Z, x, b), v)
            self.assertIsNone(y)
            return True
        self.assertIsNone(x)
        self.assertIs(type(y), tuple)
        self.assertTrue(is_matrix(Q, (1, b[1], (y,))))
        for row in b[2]:
            self.assertEqual(product_with(row, y).denominator, 1)
        self.assertNotEqual(product_with(v, y).denominator, 1)
        return False

    def test_vectors_in_the_lattice_and_others(self):
        take = Sample(206)
        for b in bases(206):
            m, n = b[:2]
            for _ in range(2):
                x = take.vector(Z, m, 0, 3)
                v = row_times(Z, x, b)
                self.assertTrue(self.check(b, v))
                self.assertEqual(coordinates(b, v), x)
                self.check(b, take.vector(Z, n, 0, 2))
                self.check(b, take.vector(Z, n, 0, 40))
                if n:
                    self.check(b, v[:-1] + (v[-1] + 1,))
            self.assertTrue(self.check(b, (0,) * n))

    def test_known_vectors(self):
        b = integers((2, 0), (0, 3))
        self.assertEqual(coordinates(b, (4, -3)), (2, -1))
        self.assertIs(self.check(b, (1, 0)), False)
        self.assertIs(self.check(b, (2, 1)), False)
        # Not even a combination with fractions.
        self.assertIs(self.check(integers((1, 1)), (1, 2)), False)
        self.assertIs(self.check((0, 2, ()), (0, 1)), False)
        self.assertEqual(coordinates((0, 2, ()), (0, 0)), ())
        self.assertEqual(coordinates((0, 0, ()), ()), ())
        self.assertIsNone(outside((0, 0, ()), ()))


class SumTest(unittest.TestCase):
    """Point 126."""

    def test_small_lattices_by_their_vectors(self):
        take = Sample(207)
        reach = list(product(range(-6, 7), repeat=2))
        for _ in range(60):
            a = take.matrix(Z, take.below(4), 2, 0, 1)
            b = take.matrix(Z, take.below(4), 2, 0, 1)
            both, total = intersection(a, b), sum_of(a, b)
            for c in (both, total):
                self.assertTrue(is_matrix(Z, c))
                self.assertEqual(basis_of(c), c)
            first, second = basis_of(a), basis_of(b)
            for v in reach:
                within = coordinates(first, v) is not None and coordinates(second, v) is not None
                self.assertEqual(coordinates(both, v) is not None, within, (a, b, v))
            for c in (a, b):
                for row in c[2]:
                    self.assertIsNotNone(coordinates(total, row))
            self.assertEqual(total, basis_of((a[0] + b[0], 2, a[2] + b[2])))

    def test_ranks_and_volumes(self):
        take = Sample(208)
        for n in (1, 2, 3, 4, 10):
            for digits in (1, 3, 40):
                a, b = take.matrix(Z, n, n, 0, digits), take.matrix(Z, n, n, 0, digits)
                a, b = basis_of(a), basis_of(b)
                if a[0] < n or b[0] < n:
                    continue
                both, total = intersection(a, b), sum_of(a, b)
                # As many classes of the sum modulo b as of a modulo what is in both.
                self.assertEqual(index_in(total, b), index_in(a, both))
                self.assertEqual(index_in(total, a), index_in(b, both))
        for m, k, n in ((1, 1, 3), (2, 2, 3), (2, 3, 4), (3, 3, 4), (0, 2, 3), (6, 6, 10), (10, 10, 10)):
            a, b = take.matrix(Z, m, n, 0, 2), take.matrix(Z, k, n, 0, 2)
            both, total = intersection(a, b), sum_of(a, b)
            self.assertEqual(both[0] + total[0], rank(Q, change(Z, Q, a)) + rank(Q, change(Z, Q, b)))
            for c in (a, b):
                held = basis_of(c)
                for row in both[2]:
                    self.assertIsNotNone(coordinates(held, row))

    def test_known_lattices(self):
        self.assertEqual(sum_of(integers((4,)), integers((6,))), integers((2,)))
        self.assertEqual(intersection(integers((4,)), integers((6,))), integers((12,)))
        self.assertEqual(intersection(integers((1, 0)), integers((0, 1))), (0, 2, ()))
        self.assertEqual(intersection(integers((2, 0), (0, 2)), integers((1, 1))), integers((2, 2)))
        self.assertEqual(intersection(integers((2, 4), (1, 2)), integers((0, 0), (3, 6))), integers((3, 6)))
        self.assertEqual(sum_of((0, 3, ()), (2, 3, ((0, 0, 0), (0, -2, 0)))), integers((0, 2, 0)))
        self.assertEqual(intersection((0, 3, ()), identity(Z, 3)), (0, 3, ()))
        self.assertEqual(intersection((0, 0, ()), (2, 0, ((), ()))), (0, 0, ()))
        self.assertEqual(sum_of((1, 0, ((),)), (0, 0, ())), (0, 0, ()))


class DualTest(unittest.TestCase):
    """Points 127 and 128."""

    def test_dual(self):
        for b in bases(209):
            d = dual(b)
            self.assertTrue(is_matrix(Q, d))
            self.assertEqual(d[:2], b[:2])
            over = change(Z, Q, b)
            self.assertEqual(times(Q, d, transposed(over)), identity(Q, b[0]))
            for row in d[2]:
                self.assertIsNotNone(solve(Q, transposed(over), row))
        self.assertEqual(dual(integers((2, 0), (0, 3))), (2, 2, (((1, 2), (0, 1)), ((0, 1), (1, 3)))))
        self.assertEqual(dual(integers((1, 1))), (1, 2, (((1, 2), (1, 2)),)))

    def test_volume(self):
        for b in bases(210):
            g = times(Z, b, transposed(b))
            self.assertEqual((volume(b), 1), determinant(Q, change(Z, Q, g)))
            if b[0] < 5:
                self.assertEqual(volume(b), by_permutations(Z, g))
            self.assertIs(type(volume(b)), int)
        self.assertEqual(volume((0, 5, ())), 1)
        self.assertEqual(volume(integers((3, 4))), 25)
        self.assertEqual(volume(integers((1, 2), (3, 4))), 4)

    def test_index(self):
        take = Sample(211)
        for a in bases(211, 25, 4):
            m = a[0]
            moves = take.matrix(Z, m, m, 0, 1)
            b = times(Z, moves, a)
            size = abs(determinant(Q, change(Z, Q, moves))[0])
            if size:
                self.assertEqual(index_in(a, b), size)
                if m and size > 1:
                    self.assertIsNone(index_in(b, a))
                self.assertEqual(volume(b), volume(a) * size * size)
            self.assertEqual(index_in(a, a), 1)
            if m:
                fewer = (m - 1, a[1], a[2][1:])
                self.assertIsNone(index_in(a, fewer))
                self.assertIsNone(index_in(fewer, a))
                self.assertIsNone(index_in((0, a[1], ()), a))

    def test_known_indices(self):
        unit = identity(Z, 2)
        self.assertEqual(index_in(unit, integers((2, 0), (0, 3))), 6)
        self.assertEqual(index_in(integers((1, 1), (0, 2)), integers((2, 0), (0, 2))), 2)
        self.assertIsNone(index_in(integers((2, 0), (0, 3)), unit))
        self.assertIsNone(index_in(integers((1, 0)), integers((0, 1))))
        self.assertEqual(index_in(integers((1, 2)), integers((-5, -10))), 5)
        self.assertIsNone(index_in(unit, integers((5, 5))))
        self.assertIsNone(index_in(integers((5, 5)), unit))
        self.assertEqual(index_in((0, 2, ()), (0, 2, ())), 1)
        self.assertEqual(index_in((0, 0, ()), (0, 0, ())), 1)
        for a in (unit, integers((3, 1), (0, BIG))):
            self.assertIs(type(index_in(a, a)), int)


class ErrorTest(unittest.TestCase):
    """Points 6 and 120."""

    def test_dependent_rows(self):
        for a in DEPENDENT:
            zero = (0,) * a[1]
            good = basis_of(a)
            for function in (orthogonal, is_reduced, reduce_basis, dual, volume):
                with self.assertRaises(SingularError):
                    function(a)
            for function in (coordinates, outside):
                with self.assertRaises(SingularError):
                    function(a, zero)
            for first, second in ((a, good), (good, a), (a, a)):
                with self.assertRaises(SingularError):
                    index_in(first, second)
            # These take any matrix.
            self.assertTrue(same_lattice(basis_of(a), a))
            self.assertEqual(sum_of(a, a), basis_of(a))
            self.assertEqual(intersection(a, a), basis_of(a))

    def test_sizes_come_first(self):
        for a in DEPENDENT + (identity(Z, 2), (0, 2, ()), (0, 0, ())):
            for more in ((0,), (0, 0, 0)):
                v = (0,) * a[1] + more
                for function in (coordinates, outside):
                    with self.assertRaises(ShapeError):
                        function(a, v)
                wide = (1, len(v), (v,))
                for function in (sum_of, intersection, index_in):
                    with self.assertRaises(ShapeError):
                        function(a, wide)
                    with self.assertRaises(ShapeError):
                        function(wide, a)
        with self.assertRaises(ShapeError):
            coordinates(identity(Z, 2), (0,))
        with self.assertRaises(ShapeError):
            outside(identity(Z, 2), ())

    def test_arguments_stay_and_answers_repeat(self):
        take = Sample(212)
        a, b = take.matrix(Z, 4, 4, 0, 3), take.matrix(Z, 4, 4, 0, 3)
        copies = [(m, n, tuple(tuple(row) for row in rows)) for m, n, rows in (a, b)]
        for function in (basis_of, orthogonal, is_reduced, reduce_basis, dual, volume):
            self.assertEqual(function(a), function(a))
        for function in (sum_of, intersection, index_in):
            self.assertEqual(function(a, b), function(a, b))
        for function in (coordinates, outside):
            self.assertEqual(function(a, (1, 2, 3, 4)), function(a, (1, 2, 3, 4)))
        self.assertEqual([a, b], copies)


if __name__ == "__main__":
    unittest.main()
