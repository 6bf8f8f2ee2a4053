"""Points 141, 142 and 145: claims over a field."""

import unittest

from echelon.domains import negate, one
from echelon.matrices import identity, zero_matrix
from tests.claims import (
    F2, F7, LARGE, P2, P7, PQ, Q, Z, ClaimTest, poly, table, vector,
)

NONE = (0, 0, ())
NO_FIELDS = (Z, PQ, P7, ("F", 4), ("F", 65537), ("F", True), ("F",), (), None, "Q", ["Q"], ("P", PQ), 7)


def wide(d, m, n):
    return zero_matrix(d, m, n)


class EliminationTest(ClaimTest):
    """Point 141: rank, echelon, kernel, solution, inverse."""

    def test_rank(self):
        for f in (Q, F7, LARGE):
            good = ("rank", f, table(f, (1, 2, 3), (2, 4, 6)), 1, table(f, (1, 0)), table(f, (1,), (0,), (0,)),
                    table(f, (1,), (2,)), table(f, (1, 2, 3)))
            self.check_form(
                good, {1: Z}, {1: ("P", f)}, {2: table(f, (1, 2, 3), (2, 4, 5))}, {2: table(f, (1, 2, 3))},
                {3: 0}, {3: 2}, {3: -1}, {4: table(f, (2, 0))}, {4: table(f, (0, 0))}, {4: table(f, (1, 0, 0))},
                {4: table(f, (1, 0), (1, 0))}, {4: (0, 2, ())}, {5: table(f, (0,), (1,), (0,))},
                {5: table(f, (1,), (0,))}, {5: table(f, (1, 0), (0, 0), (0, 0))}, {6: table(f, (1,), (3,))},
                {6: table(f, (1,))}, {6: table(f, (1, 0), (2, 0))}, {7: table(f, (1, 2, 4))},
                {7: table(f, (1, 2))}, {7: table(f, (1, 2, 3), (0, 0, 0))},
                {6: table(f, (1, 0), (2, 0)), 7: table(f, (1, 2, 3), (0, 0, 0))},
                {3: 0, 4: (0, 2, ()), 5: (3, 0, ((),) * 3), 6: (2, 0, ((),) * 2), 7: (0, 3, ())},
                {3: 0, 4: (0, 2, ()), 5: (3, 0, ((),) * 3)})
            unit = identity(f, 2)
            self.accept(("rank", f, unit, 2, unit, unit, unit, unit))
            self.reject(("rank", f, table(f, (1, 1), (1, 1)), 2, unit, unit, unit, table(f, (1, 1), (1, 1))))
            self.reject(("rank", f, table(f, (1, 1), (1, 1)), 2, unit, unit, table(f, (1, 1), (1, 1)), unit))
        self.reject(("rank", Q, table(F7, (1,)), 1) + (table(F7, (1,)),) * 4)
        self.reject(("rank", F7, table(Q, (1,)), 1) + (table(Q, (1,)),) * 4)

    def test_rank_without_entries(self):
        for f in (Q, F2):
            self.accept(("rank", f, NONE, 0, NONE, NONE, NONE, NONE))
            self.accept(("rank", f, (0, 3, ()), 0, NONE, (3, 0, ((),) * 3), NONE, (0, 3, ())))
            self.accept(("rank", f, (2, 0, ((),) * 2), 0, (0, 2, ()), NONE, (2, 0, ((),) * 2), NONE))
            self.accept(("rank", f, wide(f, 2, 3), 0, (0, 2, ()), wide(f, 3, 0), wide(f, 2, 0), (0, 3, ())))
            self.reject(("rank", f, NONE, 0, NONE, NONE, NONE, (0, 1, ())))
            self.reject(("rank", f, NONE, False, NONE, NONE, NONE, NONE))

    def test_echelon(self):
        for f in (Q, F7):
            good = ("echelon", f, table(f, (2, 4, 1), (1, 2, 1)), table(f, (1, 2, 0), (0, 0, 1)),
                    table(f, (1, -1), (-1, 2)), table(f, (2, 1), (1, 1)))
            self.check_form(
                good, {1: Z}, {2: table(f, (2, 4, 1), (1, 2, 2))}, {2: table(f, (2, 4), (1, 2))},
                {3: table(f, (1, 2, 0), (0, 0, 2))}, {3: table(f, (1, 2, 0))}, {4: table(f, (1, -1), (-1, 3))},
                {4: table(f, (1, -1))}, {5: table(f, (2, 1), (1, 2))}, {5: table(f, (2, 1), (1, 1), (0, 0))})
            unit = identity(f, 2)
            for a in (table(f, (0, 0), (1, 0)), table(f, (0, 1), (1, 0)), table(f, (2, 0), (0, 1)),
                      table(f, (1, 3), (0, 1)), table(f, (1, 0), (0, -1)), table(f, (1, 0), (1, 0)),
                      table(f, (0, 1), (0, 1))):
                # All conditions but the form of r hold.
                self.reject(("echelon", f, a, a, unit, unit))
            for a in (table(f, (1, 0), (0, 1)), table(f, (1, 5), (0, 0)), table(f, (0, 1), (0, 0)),
                      table(f, (0, 0), (0, 0))):
                self.accept(("echelon", f, a, a, unit, unit))
            # t has no inverse.
            self.reject(("echelon", f, table(f, (1, 0), (0, 1)), table(f, (1, 0), (0, 0)),
                         table(f, (1, 0), (0, 0)), table(f, (1, 0), (0, 0))))
            self.accept(("echelon", f, NONE, NONE, NONE, NONE))
            self.accept(("echelon", f, (0, 2, ()), (0, 2, ()), NONE, NONE))
            empty = (2, 0, ((), ()))
            self.accept(("echelon", f, empty, empty, unit, unit))
            self.reject(("echelon", f, empty, empty, unit, NONE))

    def test_kernel(self):
        for f in (Q, F7):
            a = table(f, (1, 2, 3), (2, 4, 6))
            k, w = table(f, (-2, -3), (1, 0), (0, 1)), table(f, (0, 1, 0), (0, 0, 1))
            good = ("kernel", f, a, k, w, table(f, (1, 0)), table(f, (1,), (0,), (0,)))
            self.check_form(
                good, {1: Z}, {2: table(f, (1, 2, 3), (2, 4, 5))}, {3: table(f, (-2, -3), (1, 0), (0, 2))},
                {3: table(f, (-2, -2), (1, 1), (0, 0))}, {4: table(f, (0, 1, 0), (0, 0, 2))},
                {4: table(f, (0, 1, 0))}, {4: table(f, (0, 1), (0, 0))}, {5: table(f, (2, 0))},
                {5: table(f, (1,))}, {5: table(f, (1, 0), (0, 1))}, {6: table(f, (0,), (0,), (0,))},
                {6: table(f, (1,), (0,))}, {3: table(f, (-2,), (1,), (0,)), 4: table(f, (0, 1, 0))},
                {3: table(f, (-2, -3), (1, 0)), 4: table(f, (0, 1), (0, 0))})
            unit = identity(f, 2)
            self.accept(("kernel", f, unit, (2, 0, ((), ())), (0, 2, ()), unit, unit))
            self.accept(("kernel", f, wide(f, 2, 2), unit, unit, (0, 2, ()), (2, 0, ((), ()))))
            self.accept(("kernel", f, (0, 2, ()), unit, unit, NONE, (2, 0, ((), ()))))
            self.accept(("kernel", f, (2, 0, ((), ())), NONE, NONE, (0, 2, ()), NONE))
            self.accept(("kernel", f, NONE, NONE, NONE, NONE, NONE))
            # More columns than a has.
            self.reject(("kernel", f, wide(f, 1, 1), table(f, (1, 0)), table(f, (1,), (0,)), (0, 1, ()),
                         (1, 0, ((),))))
            # The kernel is larger.
            self.reject(("kernel", f, wide(f, 2, 2), table(f, (1,), (0,)), table(f, (1, 0)),
                         table(f, (1, 0)), table(f, (1,), (0,))))

    def test_solution(self):
        for f in (Q, F7):
            good = ("solution", f, table(f, (1, 2), (3, 4), (0, 0)), vector(f, 5, 11, 0), vector(f, 1, 2))
            self.check_form(
                good, {1: Z}, {2: table(f, (1, 2), (3, 5), (0, 0))}, {2: table(f, (1, 2), (3, 4))},
                {3: vector(f, 5, 11, 1)}, {3: vector(f, 5, 11)}, {3: vector(f, 5, 11, 0, 0)}, {4: vector(f, 1, 3)},
                {4: vector(f, 1)}, {4: vector(f, 1, 2, 0)}, {4: table(f, (1,), (2,))})
            self.accept(("solution", f, NONE, (), ()))
            self.accept(("solution", f, (0, 2, ()), (), vector(f, 3, 4)))
            self.accept(("solution", f, (2, 0, ((), ())), vector(f, 0, 0), ()))
            self.reject(("solution", f, (2, 0, ((), ())), vector(f, 0, 1), ()))

    def test_no_solution(self):
        for f in (Q, F7):
            good = ("no solution", f, table(f, (1, 2), (2, 4)), vector(f, 1, 3), vector(f, -2, 1))
            self.check_form(
                good, {1: Z}, {2: table(f, (1, 2), (2, 3))}, {2: table(f, (1, 2))}, {3: vector(f, 1, 2)},
                {3: vector(f, 1, 4)}, {3: vector(f, 1)}, {3: vector(f, 1, 3, 0)}, {4: vector(f, -4, 2)},
                {4: vector(f, -2, 2)}, {4: vector(f, -2)}, {4: vector(f, -2, 1, 0)}, {4: vector(f, 0, 0)})
            self.accept(("no solution", f, (2, 0, ((), ())), vector(f, 0, 1), vector(f, 5, 1)))
            self.reject(("no solution", f, (0, 2, ()), (), ()))
            self.reject(("no solution", f, NONE, (), ()))

    def test_inverse(self):
        for f in (Q, F7):
            good = ("inverse", f, table(f, (2, 1), (1, 1)), table(f, (1, -1), (-1, 2)))
            self.check_form(
                good, {1: Z}, {1: ("P", f)}, {2: table(f, (2, 1), (1, 2))}, {2: table(f, (2, 1))},
                {3: table(f, (1, -1), (-1, 3))}, {3: table(f, (1,), (-1,))}, {3: identity(f, 3)})
            # A one-sided inverse is none.
            self.reject(("inverse", f, table(f, (1, 0)), table(f, (1,), (0,))))
            self.accept(("inverse", f, NONE, NONE))
            self.accept(("inverse", f, identity(f, 40), identity(f, 40)))
            self.reject(("inverse", f, (0, 2, ()), (2, 0, ((), ()))))

    def test_singular(self):
        for f in (Q, F7):
            good = ("singular", f, table(f, (1, 2), (2, 4)), vector(f, 2, -1))
            self.check_form(
                good, {1: Z}, {2: table(f, (1, 2), (2, 3))}, {2: table(f, (1, 2))}, {3: vector(f, 1, 1)},
                {3: vector(f, 0, 0)}, {3: vector(f, 2)}, {3: vector(f, 2, -1, 0)})
            self.reject(("singular", f, NONE, ()))
            self.reject(("singular", f, table(f, (1, 0), (0, 1)), vector(f, 0, 0)))
            self.reject(("singular", f, table(f, (1, -1)), vector(f, 1, 1)))


class SimilarTest(ClaimTest):
    """Point 141: similar, not similar."""

    def test_similar(self):
        for f in (Q, F7):
            good = ("similar", f, table(f, (1, 1), (0, 2)), table(f, (1, 0), (0, 2)),
                    table(f, (1, 1), (0, 1)), table(f, (1, -1), (0, 1)))
            self.check_form(
                good, {1: Z}, {2: table(f, (1, 1), (0, 3))}, {2: table(f, (1, 1))}, {3: table(f, (1, 0), (0, 1))},
                {3: identity(f, 3)}, {3: table(f, (1, 0))}, {4: table(f, (1, 2), (0, 1))}, {4: table(f, (1, 1))},
                {4: identity(f, 3)}, {5: table(f, (1, -1), (0, 2))}, {5: identity(f, 1)})
            # t has no inverse.
            none = wide(f, 2, 2)
            self.reject(("similar", f, table(f, (1, 1), (0, 2)), none, none, none))
            self.accept(("similar", f, NONE, NONE, NONE, NONE))
            self.reject(("similar", f, table(f, (1, 1), (0, 2)), table(f, (1, 0), (0, 2)), identity(f, 2),
                         identity(f, 2)))

    def test_not_similar(self):
        for f in (Q, F7):
            unit, other = identity(f, 2), table(f, (0, -1), (1, 2))
            linear = poly(f, -1, 1)
            c = ("frobenius", f, unit, (linear, linear), unit, unit)
            g = ("frobenius", f, other, (poly(f, 1, -2, 1),), unit, unit)
            good = ("not similar", f, unit, other, c, g)
            twice = table(f, (2, 0), (0, 2))
            third = ("frobenius", f, twice, (poly(f, -2, 1),) * 2, unit, unit)
            self.check_form(
                good, {1: Z}, {2: other}, {3: unit}, {4: g}, {5: c}, {4: third}, {5: third}, {2: twice}, {3: twice},
                {4: c[:3] + ((linear,),) + c[4:]}, {4: ("similar",) + c[1:]}, {5: ("jordan",) + g[1:]},
                {4: ("characteristic", f, unit, poly(f, 1, -2, 1), (linear, linear), unit, unit)},
                {5: g[:4] + (table(f, (1, 1), (0, 1)), unit)})
            self.accept(("not similar", f, other, unit, g, c))
            self.accept(("not similar", f, unit, twice, c, third))
            # The lists are equal.
            self.reject(("not similar", f, unit, unit, c, c))
            # The sizes are not.
            one_row = ("frobenius", f, identity(f, 1), (linear,), identity(f, 1), identity(f, 1))
            self.reject(("not similar", f, unit, identity(f, 1), c, one_row))
        # The forms are over another field.
        unit, other = identity(F2, 2), table(F2, (0, 1), (1, 0))
        c = ("frobenius", F2, unit, ((1, 1), (1, 1)), unit, unit)
        g = ("frobenius", F2, other, ((1, 0, 1),), unit, unit)
        self.accept(("not similar", F2, unit, other, c, g))
        self.reject(("not similar", F7, unit, other, c, g))
        self.reject(("not similar", ("F", 3), unit, other, c, g))


class DeterminantTest(ClaimTest):
    """Point 142."""

    def test_over_fields(self):
        for f in (Q, F7):
            good = ("determinant", f, table(f, (0, 2, 1), (1, 1, 0), (2, 2, 3)), from_field(f, -6), (1, 0, 2),
                    table(f, (1, 0, 0), (0, 1, 0), (2, 0, 1)), table(f, (1, 1, 0), (0, 2, 1), (0, 0, 3)))
            self.check_form(
                good, {1: Z}, {1: ("P", f)}, {2: table(f, (0, 2, 1), (1, 1, 0), (2, 2, 4))},
                {2: table(f, (0, 2), (1, 1), (2, 2))}, {3: from_field(f, 6)}, {3: from_field(f, 0)},
                {4: (0, 1, 2)}, {4: (1, 0)}, {4: (1, 0, 2, 3)}, {4: (1, 1, 2)}, {4: (1, 0, 3)}, {4: (-2, 0, 2)},
                {4: (1, 0, True)}, {4: [1, 0, 2]}, {5: table(f, (1, 0, 0), (0, 1, 0), (3, 0, 1))},
                {5: table(f, (1, 0), (0, 1))}, {6: table(f, (1, 1, 0), (0, 2, 1), (0, 0, 4))},
                {6: table(f, (1, 1), (0, 2))},
                # The product is right, but not the triangles.
                {5: table(f, (2, 0, 0), (0, 1, 0), (4, 0, 1)), 6: table(f, (4, 4, 0), (0, 2, 1), (0, 0, 3))})
            unit = identity(f, 2)
            swap = table(f, (0, 1), (1, 0))
            self.accept(("determinant", f, swap, from_field(f, -1), (1, 0), unit, unit))
            self.reject(("determinant", f, swap, from_field(f, 1), (1, 0), unit, unit))
            self.reject(("determinant", f, swap, from_field(f, 1), (0, 1), swap, unit))
            self.reject(("determinant", f, swap, from_field(f, 0), (0, 1), unit, swap))
            half = table(f, (2, 0), (0, 1))
            self.reject(("determinant", f, half, from_field(f, 1), (0, 1), half, unit))
            self.accept(("determinant", f, NONE, one(f), (), NONE, NONE))
            self.reject(("determinant", f, NONE, from_field(f, 0), (), NONE, NONE))
            self.reject(("determinant", f, (0, 2, ()), one(f), (), NONE, NONE))
            cycle = table(f, (0, 1, 0), (0, 0, 1), (1, 0, 0))
            self.accept(("determinant", f, cycle, one(f), (2, 0, 1), identity(f, 3), identity(f, 3)))
            self.reject(("determinant", f, cycle, negate(f, one(f)), (2, 0, 1), identity(f, 3), identity(f, 3)))

    def test_over_the_integers(self):
        good = ("determinant", Z, table(Z, (2, 1), (1, 1)), 1, (0, 1),
                (2, 2, (((1, 1), (0, 1)), ((1, 2), (1, 1)))), (2, 2, (((2, 1), (1, 1)), ((0, 1), (1, 2)))))
        self.check_form(
            good, {1: Q}, {1: F7}, {2: table(Q, (2, 1), (1, 1))}, {3: (1, 1)}, {3: -1}, {3: 2},
            {4: (1, 0)}, {5: table(Z, (1, 0), (0, 1))}, {6: table(Z, (2, 1), (0, 1))},
            {6: (2, 2, (((2, 1), (1, 1)), ((0, 1), (1, 1))))})
        self.accept(("determinant", Z, NONE, 1, (), NONE, NONE))
        unit = identity(Q, 2)
        self.accept(("determinant", Z, table(Z, (0, 1), (1, 0)), -1, (1, 0), unit, unit))
        self.accept(("determinant", Z, table(Z, (1, 2), (2, 4)), 0, (0, 1), table(Q, (1, 0), (2, 1)),
                     table(Q, (1, 2), (0, 0))))
        self.reject(("determinant", Z, table(Q, (0, 1), (1, 0)), -1, (1, 0), unit, unit))
        # The same over the field of the fractions has fractions in it.
        self.accept(("determinant", Q, table(Q, (0, 1), (1, 0)), (-1, 1), (1, 0), unit, unit))
        self.reject(("determinant", Q, table(Q, (0, 1), (1, 0)), -1, (1, 0), unit, unit))


def from_field(f, n):
    return vector(f, n)[0]


class OperatorTest(ClaimTest):
    """Point 145."""

    def test_frobenius(self):
        for f in (Q, F7):
            a = table(f, (1, 1, 0), (0, 1, 0), (0, 0, 1))
            t, s = table(f, (0, 0, 1), (0, 1, 1), (1, 0, 0)), table(f, (0, 0, 1), (-1, 1, 0), (1, 0, 0))
            good = ("frobenius", f, a, (poly(f, -1, 1), poly(f, 1, -2, 1)), t, s)
            self.check_form(
                good, {1: Z}, {2: table(f, (1, 2, 0), (0, 1, 0), (0, 0, 1))}, {2: table(f, (1, 1, 0))},
                {3: (poly(f, 1, -2, 1), poly(f, -1, 1))}, {3: (poly(f, -1, 1),)}, {3: (poly(f, -1, 1),) * 3},
                {3: (poly(f, -2, 2), poly(f, 1, -2, 1))}, {3: (poly(f, 1), poly(f, -1, 1), poly(f, 1, -2, 1))},
                {3: (poly(f, -1, 1), (), poly(f, 1, -2, 1))}, {3: ()}, {3: (poly(f, -1, 1), poly(f, 1, -2, 2))},
                {4: identity(f, 3)}, {4: identity(f, 2)}, {5: identity(f, 3)}, {5: identity(f, 4)},
                {4: t[:2] + (t[2][:2],)})
            # Each polynomial is a factor, but the first does not divide the second one.
            parted = table(f, (1, 0), (0, 2))
            unit = identity(f, 2)
            self.reject(("frobenius", f, parted, (poly(f, -1, 1), poly(f, -2, 1)), unit, unit))
            self.accept(("frobenius", f, unit, (poly(f, -1, 1), poly(f, -1, 1)), unit, unit))
            for values, judged in (((1, 1, 1), self.accept), ((1, 1, 2), self.reject), ((1, 2, 2), self.reject),
                                   ((2, 1, 1), self.reject), ((1, 2, 1), self.reject)):
                factors = tuple(poly(f, -x, 1) for x in values)
                rows = [[x if i == j else 0 for j in range(3)] for i, x in enumerate(values)]
                judged(("frobenius", f, table(f, *rows), factors, identity(f, 3), identity(f, 3)))
            self.accept(("frobenius", f, table(f, (0, -2), (1, 3)), (poly(f, 2, -3, 1),), unit, unit))
            # No companion matrix of this polynomial, which is not monic.
            self.reject(("frobenius", f, table(f, (0, -2), (1, 3)), (poly(f, 2, -3, 2),), unit, unit))
            self.accept(("frobenius", f, NONE, (), NONE, NONE))
            self.reject(("frobenius", f, NONE, (poly(f, 1),), NONE, NONE))
            self.reject(("frobenius", f, unit, (poly(f, -1, 1), poly(f, -1, 1)), wide(f, 2, 2), wide(f, 2, 2)))
            large = identity(f, 40)
            self.accept(("frobenius", f, large, (poly(f, -1, 1),) * 40, large, large))

    def test_characteristic_and_minimal(self):
        for f in (Q, F7):
            a = table(f, (1, 0), (0, 1))
            unit = identity(f, 2)
            pair = (poly(f, -1, 1), poly(f, -1, 1))
            self.check_form(
                ("characteristic", f, a, poly(f, 1, -2, 1), pair, unit, unit), {1: Z},
                {2: table(f, (1, 0), (0, 2))}, {3: poly(f, -1, 1)}, {3: poly(f, 1, -2, 2)}, {3: poly(f, 2, -4, 2)},
                {3: ()}, {3: poly(f, 1, -2, 1) + (from_field(f, 0),)}, {4: pair[:1]}, {4: (poly(f, 1, -2, 1),)},
                {5: table(f, (1, 1), (0, 1))}, {6: wide(f, 2, 2)})
            self.check_form(
                ("minimal", f, a, poly(f, -1, 1), pair, unit, unit), {1: Z}, {2: table(f, (1, 0), (0, 2))},
                {3: poly(f, 1, -2, 1)}, {3: poly(f, -2, 2)}, {3: ()}, {3: poly(f, 1)}, {4: pair[:1]},
                {4: (poly(f, 1, -2, 1),)}, {5: table(f, (1, 1), (0, 1))}, {6: wide(f, 2, 2)})
            for name in ("characteristic", "minimal"):
                self.accept((name, f, NONE, poly(f, 1), (), NONE, NONE))
                self.reject((name, f, NONE, (), (), NONE, NONE))
                self.reject((name, f, NONE, poly(f, 2), (), NONE, NONE))
                self.reject((name, f, NONE, poly(f, 0, 1), (), NONE, NONE))
            # The last one of several, not the first one.
            a = table(f, (1, 0, 0), (0, 0, -1), (0, 1, 2))
            factors = (poly(f, -1, 1), poly(f, 1, -2, 1))
            unit = identity(f, 3)
            self.accept(("minimal", f, a, factors[1], factors, unit, unit))
            self.reject(("minimal", f, a, factors[0], factors, unit, unit))
            self.accept(("characteristic", f, a, poly(f, -1, 3, -3, 1), factors, unit, unit))

    def test_jordan(self):
        for f in (Q, F7):
            x, y = from_field(f, 1), from_field(f, 2)
            a = table(f, (1, 2, 0), (0, 1, 0), (0, 0, 2))
            t = table(f, (2, 0, 0), (0, 1, 0), (0, 0, 1))
            s = (3, 3, (((1, 2), (0, 1), (0, 1)) if f == Q else (4, 0, 0),) + identity(f, 3)[2][1:])
            good = ("jordan", f, a, ((x, 2), (y, 1)), t, s)
            self.check_form(
                good, {1: Z}, {2: table(f, (1, 3, 0), (0, 1, 0), (0, 0, 2))}, {2: table(f, (1, 2, 0))},
                {3: ((x, 1), (x, 1), (y, 1))}, {3: ((x, 2),)}, {3: ((x, 2), (y, 2))}, {3: ((x, 2), (y, 1), (y, 0))},
                {3: ((x, 2), (y, 2), (y, -1))}, {3: ((y, 1), (x, 2))}, {3: ((x, 2), (x, 1))}, {3: ((x, 3),)},
                {3: ()}, {4: identity(f, 3)}, {5: identity(f, 3)}, {4: identity(f, 2)}, {5: identity(f, 2)})
            unit = identity(f, 3)
            self.accept(("jordan", f, table(f, (1, 1, 0), (0, 1, 0), (0, 0, 1)), ((x, 2), (x, 1)), unit, unit))
            # The order of point 109, by the number of rows and by the eigenvalue.
            self.reject(("jordan", f, table(f, (1, 0, 0), (0, 1, 1), (0, 0, 1)), ((x, 1), (x, 2)), unit, unit))
            self.reject(("jordan", f, table(f, (2, 0, 0), (0, 1, 1), (0, 0, 1)), ((y, 1), (x, 2)), unit, unit))
            self.accept(("jordan", f, unit, ((x, 1),) * 3, unit, unit))
            # Ones below the diagonal are not those of a block.
            self.reject(("jordan", f, table(f, (1, 0, 0), (1, 1, 0), (0, 0, 1)), ((x, 2), (x, 1)), unit, unit))
            self.reject(("jordan", f, unit, ((x, 1),) * 3, wide(f, 3, 3), wide(f, 3, 3)))
            self.accept(("jordan", f, NONE, (), NONE, NONE))

    def test_jordan_with_fractions(self):
        values = ((-5, 2), (-7, 3), (0, 1), (1, 3), (1, 2))
        a = (5, 5, tuple(tuple(x if i == j else (0, 1) for j in range(5)) for i, x in enumerate(values)))
        unit = identity(Q, 5)
        self.accept(("jordan", Q, a, tuple((x, 1) for x in values), unit, unit))
        swapped = (values[1], values[0]) + values[2:]
        b = (5, 5, tuple(tuple(x if i == j else (0, 1) for j in range(5)) for i, x in enumerate(swapped)))
        self.reject(("jordan", Q, b, tuple((x, 1) for x in swapped), unit, unit))
        swapped = values[:3] + (values[4], values[3])
        b = (5, 5, tuple(tuple(x if i == j else (0, 1) for j in range(5)) for i, x in enumerate(swapped)))
        self.reject(("jordan", Q, b, tuple((x, 1) for x in swapped), unit, unit))

    def test_no_jordan(self):
        for f, g in ((Q, poly(Q, -2, 0, 1)), (F7, poly(F7, 4, 0, 1)), (LARGE, poly(LARGE, -17, 0, 1))):
            unit = identity(f, 2)
            a = (2, 2, ((from_field(f, 0), negate(f, g[0])), (one(f), from_field(f, 0))))
            good = ("no jordan", f, a, (g,), unit, unit)
            self.check_form(
                good, {1: Z}, {2: identity(f, 2)}, {3: ()}, {3: (g, g)}, {3: (poly(f, 0, 1), poly(f, 0, 1))},
                {4: wide(f, 2, 2)}, {5: wide(f, 2, 2)})
            # Some roots, but not all.
            b = table(f, (0, 0, 0), (1, 0, 0), (0, 1, 0))
            rows = [list(row) for row in b[2]]
            h = (from_field(f, 0),) + g
            for k in range(3):
                rows[k][2] = negate(f, h[k])
            b = (3, 3, tuple(tuple(row) for row in rows))
            self.accept(("no jordan", f, b, (h,), identity(f, 3), identity(f, 3)))
        for f in (Q, F7, F2):
            # All roots, in all multiplicities.
            unit = identity(f, 2)
            self.reject(("no jordan", f, table(f, (0, -1), (1, 2)), (poly(f, 1, -2, 1),), unit, unit))
            self.reject(("no jordan", f, table(f, (0, 0), (1, 1)), (poly(f, 0, -1, 1),), unit, unit))
            self.reject(("no jordan", f, unit, (poly(f, -1, 1),) * 2, unit, unit))
            self.reject(("no jordan", f, NONE, (), NONE, NONE))
        self.accept(("no jordan", F2, table(F2, (0, 1), (1, 1)), ((1, 1, 1),), identity(F2, 2), identity(F2, 2)))


class LimitTest(ClaimTest):
    """Point 140: no matrix has more than 40 rows or columns; no limit of point 5 is a condition."""

    def test_rows_and_columns(self):
        for f in (Q, F2):
            for n, holds in ((11, True), (40, True), (41, False), (60, False)):
                judged = self.accept if holds else self.reject
                unit = identity(f, n)
                judged(("inverse", f, unit, unit))
                judged(("echelon", f, unit, unit, unit, unit))
                judged(("solution", f, (0, n, ()), (), (one(f),) * n))
                judged(("solution", f, (n, 0, ((),) * n), (from_field(f, 0),) * n, ()))
                judged(("no solution", f, (n, 0, ((),) * n), (one(f),) * n,
                        (one(f),) + (from_field(f, 0),) * (n - 1)))
                judged(("rank", f, (0, n, ()), 0, NONE, (n, 0, ((),) * n), NONE, (0, n, ())))
                judged(("kernel", f, (n, 0, ((),) * n), NONE, NONE, (0, n, ()), NONE))
                judged(("singular", f, wide(f, n, n), (one(f),) * n))
                judged(("determinant", f, unit, one(f), tuple(range(n)), unit, unit))
                judged(("jordan", f, unit, ((one(f), 1),) * n, unit, unit))
                judged(("similar", f, unit, unit, unit, unit))

    def test_large_integers(self):
        big = 10 ** 5000 + 1
        self.accept(("solution", Q, (1, 1, (((big, 1),),)), ((1, 1),), ((1, big),)))
        self.accept(("inverse", Q, (1, 1, (((big, big - 1),),)), (1, 1, (((big - 1, big),),))))
        self.reject(("inverse", Q, (1, 1, (((big, big - 1),),)), (1, 1, (((big, big - 1),),))))
        self.accept(("determinant", Z, (1, 1, ((big,),)), big, (0,), identity(Q, 1), (1, 1, (((big, 1),),))))
        self.reject(("rank", Q, NONE, big, NONE, NONE, NONE, NONE))
        self.reject(("inverse", ("F", big), NONE, NONE))
        self.reject(("inverse", Q, (big, 1, ()), NONE))
        self.reject(("inverse", Q, (big, big, ()), NONE))
        self.reject(("jordan", Q, identity(Q, 1), (((1, 1), big),), identity(Q, 1), identity(Q, 1)))

    def test_domains_that_are_no_fields(self):
        for d in NO_FIELDS:
            for claim in (("inverse", d, NONE, NONE), ("solution", d, NONE, (), ()),
                          ("frobenius", d, NONE, (), NONE, NONE),
                          ("jordan", d, NONE, (), NONE, NONE), ("echelon", d, NONE, NONE, NONE, NONE),
                          ("kernel", d, NONE, NONE, NONE, NONE, NONE), ("similar", d, NONE, NONE, NONE, NONE),
                          ("rank", d, NONE, 0, NONE, NONE, NONE, NONE), ("minimal", d, NONE, (1,), (), NONE, NONE)):
                self.reject(claim)
            if d != Z:
                self.reject(("determinant", d, NONE, 1, (), NONE, NONE))
                self.reject(("determinant", d, NONE, (1, 1), (), NONE, NONE))
        self.reject(("determinant", P2, NONE, (1,), (), NONE, NONE))

    def test_fractions_that_are_not_in_lowest_terms(self):
        for x in ((2, 2), (-1, -1), (1, 0), (0, 0), (1, 1, 1), (1,), (True, 1), (1, True), [1, 1], 1):
            self.reject(("inverse", Q, (1, 1, ((x,),)), identity(Q, 1)))
            self.reject(("inverse", Q, identity(Q, 1), (1, 1, ((x,),))))
            self.reject(("solution", Q, identity(Q, 1), (x,), ((1, 1),)))
            self.reject(("solution", Q, identity(Q, 1), ((1, 1),), (x,)))
            self.reject(("determinant", Q, identity(Q, 1), x, (0,), identity(Q, 1), identity(Q, 1)))
        for x in ((0, 2), (0, -1), (0, 0), 0, False):
            self.reject(("solution", Q, (1, 1, ((x,),)), ((0, 1),), ((0, 1),)))
        for x in (8, -6, 7, True, (1, 1), (1,)):
            self.reject(("inverse", F7, (1, 1, ((x,),)), identity(F7, 1)))
            self.reject(("solution", F7, identity(F7, 1), (x,), (1,)))


if __name__ == "__main__":
    unittest.main()
