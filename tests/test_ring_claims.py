"""Points 143 and 144: claims over Euclidean domains, and about factors and lattices."""

import unittest

from echelon.domains import multiply, one, power, zero
from echelon.matrices import identity, zero_matrix
from tests.claims import F2, F7, LARGE, P2, P7, PQ, Q, Z, ClaimTest, poly, table, vector

NONE = (0, 0, ())
NO_RINGS = (Q, F7, ("P", Z), ("P", PQ), ("P", ("F", 4)), (), None, "Z", ["Z"], ("Z", 1))
F3 = ("F", 3)


def x_plus(f, n):
    return poly(f, n, 1)


class GreatestTest(ClaimTest):
    """Point 143: greatest."""

    def test_integers(self):
        good = ("greatest", Z, 12, -18, 6, -1, -1, 2, -3)
        self.check_form(good, {1: Q}, {2: 13}, {3: 18}, {4: 12}, {5: 1}, {6: 0}, {7: -2}, {8: 3},
                        {4: -6, 5: 1, 6: 1, 7: -2, 8: 3})
        self.accept(("greatest", Z, 12, -18, 6, 2, 1, 2, -3))
        self.accept(("greatest", Z, 0, 0, 0, 0, 0, 0, 0))
        self.accept(("greatest", Z, 0, 0, 0, 5, -7, 3, 4))
        self.accept(("greatest", Z, 0, -5, 5, 0, -1, 0, -1))
        self.reject(("greatest", Z, 0, -5, -5, 0, 1, 0, 1))
        self.reject(("greatest", Z, 12, -18, 3, 0, 0, 4, -6))
        self.reject(("greatest", Z, 12, -18, 2, 0, 0, 6, -9))
        big = 10 ** 3000
        self.accept(("greatest", Z, big, big + 1, 1, -1, 1, big, big + 1))
        self.reject(("greatest", Z, big, big + 1, 1, -1, 1, big, big))

    def test_polynomials(self):
        for f in (Q, F7, LARGE):
            e = ("P", f)
            x, y = poly(f, -1, 0, 1), poly(f, 1, 2, 1)
            # (x + 1) ** 2 - (x ** 2 - 1) is 2 (x + 1).
            unit = ((1, 2),) if f == Q else ((f[1] + 1) // 2,)
            minus = multiply(e, poly(f, -1), unit)
            good = ("greatest", e, x, y, x_plus(f, 1), minus, unit, x_plus(f, -1), x_plus(f, 1))
            self.check_form(good, {1: f}, {2: poly(f, -1, 0, 2)}, {3: poly(f, 1, 3, 1)}, {4: poly(f, 1)},
                            {4: poly(f, 2, 2)}, {5: unit}, {6: minus}, {6: ()}, {7: x_plus(f, 1)}, {8: x_plus(f, -1)},
                            {4: poly(f, 2, 2), 5: poly(f, -1), 6: poly(f, 1),
                             7: multiply(e, unit, x_plus(f, -1)), 8: multiply(e, unit, x_plus(f, 1))})
            self.accept(("greatest", e) + ((),) * 7)
            self.accept(("greatest", e, x, (), x, poly(f, 1), (), poly(f, 1), ()))
            self.reject(("greatest", e, x, (), (), (), (), (), ()))
            # A coefficient zero at the end is none of a polynomial.
            self.reject(("greatest", e, (), (), (), (zero(f),), (), (), ()))

    def test_long_polynomials(self):
        many = 20000
        for f in (F2, LARGE):
            # (x - 1) times the sum of all lower powers.
            x = (f[1] - 1,) + (0,) * (many - 1) + (1,)
            good = ("greatest", ("P", f), x, (1,) * many, (1,) * many, (), (1,), (f[1] - 1, 1), (1,))
            self.accept(good)
            self.reject(good[:2] + ((f[1] - 1,) + (0,) * (many - 2) + (1, 1),) + good[3:])
            long = (1,) * many
            square = multiply(("P", f), long, long)
            self.accept(("greatest", ("P", f), square, long, long, (), (1,), long, (1,)))
            self.reject(("greatest", ("P", f), square, long, long, (1,), (1,), long, (1,)))
        line = tuple((1, k + 1) for k in range(many - 1)) + ((1, 1),)
        self.accept(("greatest", PQ, line, (), line, ((1, 1),), (), ((1, 1),), ()))
        self.reject(("greatest", PQ, line, (), line, ((1, 2),), (), ((1, 1),), ()))


class HermiteTest(ClaimTest):
    """Point 143: hermite."""

    def test_integers(self):
        good = ("hermite", Z, table(Z, (2, 3), (4, 4)), table(Z, (2, 1), (0, 2)), table(Z, (-1, 1), (2, -1)),
                table(Z, (1, 1), (2, 1)))
        self.check_form(good, {1: Q}, {2: table(Z, (2, 3), (4, 5))}, {2: table(Z, (2, 3))},
                        {3: table(Z, (2, 1), (0, 1))},
                        {3: table(Z, (2, 3), (0, 2)), 4: table(Z, (1, 0), (2, -1)), 5: table(Z, (1, 0), (2, -1))},
                        {4: table(Z, (-1, 1), (2, 1))}, {4: identity(Z, 3)}, {5: table(Z, (1, 1), (2, 2))},
                        {3: table(Z, (2, 1, 0), (0, 2, 0))}, {4: table(Z, (-1, 1))})
        self.check_forms(Z, [(2, 1), (0, 2)], [(2, 0), (0, 2)], [(0, 3), (0, 0)], [(0, 0), (0, 0)], [(5, 7), (0, 0)])
        self.check_no_forms(Z, [(2, 2), (0, 2)], [(2, -1), (0, 2)], [(-2, 1), (0, 2)], [(2, 1), (0, -2)],
                            [(0, 0), (0, 2)], [(0, 2), (2, 0)], [(2, 0), (2, 0)], [(0, 2), (0, 2)], [(2, 3), (0, 1)],
                            [(2, 0), (3, 0)], [(0, 1), (0, 4)])
        # u has no inverse over the integers.
        self.reject(("hermite", Z, table(Z, (1,)), table(Z, (2,)), table(Z, (2,)), table(Z, (1,))))
        self.reject(("hermite", Z, table(Z, (1,)), table(Z, (0,)), table(Z, (0,)), table(Z, (0,))))

    def check_forms(self, e, *forms):
        for rows in forms:
            h = (len(rows), len(rows[0]), tuple(rows))
            unit = identity(e, len(rows))
            self.accept(("hermite", e, h, h, unit, unit))

    def check_no_forms(self, e, *forms):
        for rows in forms:
            h = (len(rows), len(rows[0]), tuple(rows))
            unit = identity(e, len(rows))
            self.reject(("hermite", e, h, h, unit, unit))

    def test_polynomials(self):
        for f in (Q, F7, F3):
            e = ("P", f)
            x, c, none = x_plus(f, 0), poly(f, 2), ()
            unit = one(e)
            good = ("hermite", e, (2, 1, ((x,), (x_plus(f, 1),))), (2, 1, ((unit,), (none,))),
                    (2, 2, ((poly(f, -1), unit), (x_plus(f, 1), poly(f, 0, -1)))),
                    (2, 2, ((x, unit), (x_plus(f, 1), unit))))
            self.check_form(good, {1: f}, {1: Z}, {2: (2, 1, ((x,), (x_plus(f, 2),)))},
                            {3: (2, 1, ((unit,), (unit,)))},
                            {3: (2, 1, ((c,), (none,)))}, {4: identity(e, 2)}, {5: identity(e, 2)},
                            {2: (1, 1, ((x,),))}, {4: identity(e, 3)}, {5: identity(e, 1)})
            self.check_forms(e, [(x, c), (none, x)], [(x, none), (none, unit)], [(none, x), (none, none)],
                             [(x, poly(f, 1, 1)), (none, poly(f, 0, 0, 1))])
            self.check_no_forms(e, [(x, x), (none, x)], [(poly(f, 0, 2), c), (none, x)],
                                [(x, c), (none, poly(f, 0, 2))],
                                [(x, c), (none, unit)], [(none, none), (none, x)], [(x, c), (x, none)],
                                [(unit, none), (x, none)])
            # A polynomial that is no constant has no inverse.
            self.reject(("hermite", e, (1, 1, ((unit,),)), (1, 1, ((x,),)), (1, 1, ((x,),)), (1, 1, ((x,),))))
            # A constant has.
            half = ((1, 2),) if f == Q else ((f[1] + 1) // 2,)
            self.accept(("hermite", e, (1, 1, ((poly(f, 0, 2),),)), (1, 1, ((x,),)), (1, 1, ((half,),)),
                         (1, 1, ((c,),))))

    def test_without_entries(self):
        for e in (Z, PQ, P2):
            self.accept(("hermite", e, NONE, NONE, NONE, NONE))
            self.accept(("hermite", e, (0, 3, ()), (0, 3, ()), NONE, NONE))
            self.reject(("hermite", e, (0, 3, ()), (0, 2, ()), NONE, NONE))
            empty = (2, 0, ((), ()))
            self.accept(("hermite", e, empty, empty, identity(e, 2), identity(e, 2)))


class SmithTest(ClaimTest):
    """Point 143: smith."""

    def test_integers(self):
        good = ("smith", Z, table(Z, (2, 0), (0, 3)), table(Z, (1, 0), (0, 6)), table(Z, (-1, 1), (3, -2)),
                table(Z, (1, 3), (1, 2)), table(Z, (2, 1), (3, 1)), table(Z, (-2, 3), (1, -1)))
        self.check_form(good, {1: Q}, {2: table(Z, (2, 0), (0, 4))}, {2: table(Z, (2, 0))},
                        {3: table(Z, (1, 0), (0, -6))}, {3: table(Z, (1, 0, 0), (0, 6, 0))},
                        {4: table(Z, (1, 0), (0, 1))},
                        {5: table(Z, (1, 0), (0, 1))}, {6: table(Z, (2, 1), (3, 2))}, {7: table(Z, (-2, 3), (1, 1))},
                        {4: identity(Z, 3)}, {5: identity(Z, 3)}, {6: identity(Z, 1)}, {7: identity(Z, 1)})

    def judge_form(self, judged, e, *forms):
        for rows in forms:
            s = (len(rows), len(rows[0]), tuple(rows))
            left, right = identity(e, s[0]), identity(e, s[1])
            judged(("smith", e, s, s, left, right, left, right))

    def test_forms(self):
        self.judge_form(self.accept, Z, [(1, 0), (0, 6)], [(2, 0), (0, 2)], [(2, 0), (0, 0)], [(0, 0), (0, 0)],
                        [(3, 0, 0), (0, 6, 0)], [(3,), (0,)], [(0, 0, 0)])
        self.judge_form(self.reject, Z, [(2, 0), (0, 3)], [(6, 0), (0, 2)], [(0, 0), (0, 2)], [(-1, 0), (0, 2)],
                        [(1, 0), (0, -2)], [(1, 1), (0, 2)], [(1, 0), (1, 2)], [(1, 0, 1)], [(1,), (1,)], [(0, 1)])
        for numbers, judged in (((1, 2, 4), self.accept), ((2, 2, 2), self.accept), ((3, 6, 0), self.accept),
                                ((3, 0, 0), self.accept), ((1, 4, 2), self.reject), ((2, 1, 4), self.reject),
                                ((2, 4, 6), self.reject), ((2, 3, 6), self.reject), ((2, 0, 4), self.reject),
                                ((0, 2, 4), self.reject)):
            self.judge_form(judged, Z, [tuple(x if i == j else 0 for j in range(3)) for i, x in enumerate(numbers)])
        for f in (Q, F7):
            e = ("P", f)
            x, c, none, unit = x_plus(f, 0), poly(f, 2), (), one(e)
            self.judge_form(self.accept, e, [(unit, none), (none, x)], [(x, none), (none, x)],
                            [(x, none), (none, none)],
                            [(x, none), (none, poly(f, 0, 1, 1))])
            self.judge_form(self.reject, e, [(x, none), (none, unit)], [(c, none), (none, x)],
                            [(unit, none), (none, poly(f, 0, 2))],
                            [(x, none), (none, x_plus(f, 1))], [(none, none), (none, unit)],
                            [(unit, unit), (none, x)])
        for e in (Z, PQ, P7):
            for m, n in ((0, 0), (0, 3), (2, 0)):
                a, left, right = zero_matrix(e, m, n), identity(e, m), identity(e, n)
                self.accept(("smith", e, a, a, left, right, left, right))
                self.reject(("smith", e, a, a, left, right, left, (n + 1, n, right[2] + right[2][:1])))
        # Neither u nor v may be without an inverse.
        none = zero_matrix(Z, 1, 1)
        for claim in (("smith", Z, identity(Z, 1), none, none, identity(Z, 1), none, identity(Z, 1)),
                      ("smith", Z, identity(Z, 1), none, identity(Z, 1), none, identity(Z, 1), none),
                      ("smith", Z, identity(Z, 1), table(Z, (2,)), table(Z, (2,)), identity(Z, 1), identity(Z, 1),
                       identity(Z, 1))):
            self.reject(claim)


class FactorsTest(ClaimTest):
    """Point 143: factors."""

    def test_conditions(self):
        for f in (F7, F3, LARGE):
            e = ("P", f)
            first, second = x_plus(f, 1), x_plus(f, 2)
            g = multiply(e, poly(f, 2), multiply(e, first, power(e, second, 2)))
            good = ("factors", f, g, ((first, 1), (second, 2)))
            self.check_form(good, {1: e}, {1: Z}, {1: Q}, {2: multiply(e, g, poly(f, -1, 1))}, {2: ()}, {2: first},
                            {3: ((first, 2), (second, 1))}, {3: ((first, 1), (second, 1))},
                            {3: ((second, 2), (first, 1))},
                            {3: ((first, 1), (second, 1), (second, 1))}, {3: ((first, 1),)}, {3: ()},
                            {3: ((first, 1), (second, 2), (x_plus(f, 3), 0))},
                            {3: ((first, 1), (second, 3), (x_plus(f, 2), -1))},
                            {3: ((multiply(e, first, second), 1), (second, 1))},
                            {3: ((second, 1), (multiply(e, first, second), 1))},
                            {3: ((poly(f, 2), 1), (first, 1), (second, 2))}, {3: ((first, 10 ** 30), (second, 2))},
                            {3: ((multiply(e, poly(f, 2), first), 1), (second, 2))}, {3: (((), 1), (second, 2))},
                            {3: ((first, 1), (second, 2), ((), 1))})
            # Factors that are not monic, though their product is.
            half = poly(f, (f[1] + 1) // 2)
            g = multiply(e, first, second)
            pair = multiply(e, poly(f, 2), first), multiply(e, half, second)
            self.accept(("factors", f, g, ((first, 1), (second, 1))))
            self.reject(("factors", f, g, ((pair[0], 1), (pair[1], 1))))
            self.reject(("factors", f, g, ((pair[1], 1), (pair[0], 1))))
        self.reject(("factors", Q, poly(Q, 1, 1), ((poly(Q, 1, 1), 1),)))
        self.reject(("factors", Q, poly(Q, 1), ()))

    def test_irreducible_factors(self):
        self.accept(("factors", F2, (1, 0, 1, 0, 1), (((1, 1, 1), 2),)))
        self.accept(("factors", F2, (0, 1, 0, 1, 0, 1), (((0, 1), 1), ((1, 1, 1), 2))))
        self.reject(("factors", F2, (1, 0, 1, 0, 1), (((1, 0, 1, 0, 1), 1),)))
        self.reject(("factors", F2, (1, 0, 1), (((1, 0, 1), 1),)))
        self.accept(("factors", F2, (1, 0, 1), (((1, 1), 2),)))
        # The order is by degree, then by the coefficients from the last one down.
        self.accept(("factors", F2, (1, 1, 1, 1, 1, 1, 1), (((1, 1, 0, 1), 1), ((1, 0, 1, 1), 1))))
        self.reject(("factors", F2, (1, 1, 1, 1, 1, 1, 1), (((1, 0, 1, 1), 1), ((1, 1, 0, 1), 1))))

    def test_constants(self):
        for f in (F2, F7, LARGE):
            self.accept(("factors", f, poly(f, 1), ()))
            self.reject(("factors", f, (), ()))
            self.reject(("factors", f, poly(f, 1), ((poly(f, 1), 1),)))
            self.reject(("factors", f, poly(f, 1), ((poly(f, 0, 1), 0),)))
        self.accept(("factors", F7, (5,), ()))

    def test_degrees(self):
        for f in (F2, F7, LARGE):
            for n, judged in ((59, self.accept), (60, self.accept), (61, self.reject), (100, self.reject)):
                judged(("factors", f, (0,) * n + (1,), (((0, 1), n),)))
        # x ** 61 + x ** 5 + x ** 2 + x + 1 and x ** 60 + x + 1 have no factors modulo 2.
        g = tuple(1 if k in (0, 1, 60) else 0 for k in range(61))
        self.accept(("factors", F2, g, ((g, 1),)))
        g = tuple(1 if k in (0, 1, 2, 5, 61) else 0 for k in range(62))
        self.reject(("factors", F2, g, ((g, 1),)))


class SystemTest(ClaimTest):
    """Point 144: systems over the integers."""

    def test_integer_solution(self):
        self.check_form(("integer solution", table(Z, (2, 3), (0, 5)), (8, 10), (1, 2)),
                        {1: table(Z, (2, 3), (1, 5))}, {1: table(Q, (2, 3), (0, 5))}, {1: table(Z, (2, 3))},
                        {2: (8, 11)},
                        {2: (8,)}, {2: (8, 10, 0)}, {2: vector(Q, 8, 10)}, {3: (1, 3)}, {3: (1,)}, {3: (1, 2, 0)},
                        {3: vector(Q, 1, 2)})
        self.accept(("integer solution", NONE, (), ()))
        self.accept(("integer solution", (0, 2, ()), (), (7, 8)))
        self.accept(("integer solution", (1, 0, ((),)), (0,), ()))
        self.reject(("integer solution", (1, 0, ((),)), (1,), ()))
        self.reject(("integer solution", (1, 41, ((1,) * 41,)), (41,), (1,) * 41))
        self.accept(("integer solution", (1, 40, ((1,) * 40,)), (40,), (1,) * 40))

    def test_no_integer_solution(self):
        half = (1, 2)
        self.check_form(("no integer solution", table(Z, (2, 4)), (1,), (half,)), {1: table(Z, (2, 3))},
                        {1: table(Q, (2, 4))},
                        {2: (2,)}, {2: ((1, 1),)}, {2: ()}, {2: (1, 1)}, {3: ((1, 1),)}, {3: ((1, 4),)}, {3: (1,)},
                        {3: (half, half)}, {3: ()}, {3: ((2, 4),)})
        self.accept(("no integer solution", table(Z, (0, 0)), (1,), (half,)))
        self.accept(("no integer solution", (1, 0, ((),)), (3,), (half,)))
        self.reject(("no integer solution", (1, 0, ((),)), (2,), (half,)))
        self.reject(("no integer solution", (0, 2, ()), (), ()))

    def test_integer_kernel(self):
        good = ("integer kernel", table(Z, (2, 4, 6)), table(Z, (1, 0), (1, 3), (-1, -2)),
                table(Z, (1, 0, 0), (-1, -1, -2)),
                table(Q, (1,)), (3, 1, (((1, 2),), ((0, 1),), ((0, 1),))))
        self.check_form(good, {1: table(Z, (2, 4, 7))}, {1: table(Q, (2, 4, 6))},
                        {2: table(Z, (1, 0), (1, 3), (-1, -1))},
                        {2: table(Z, (2, 0), (2, 3), (-2, -2))}, {3: table(Z, (1, 0, 0), (1, 1, 1))},
                        {3: table(Q, (1, 0, 0), (-1, -1, -2))}, {4: table(Z, (1,))}, {4: table(Q, (2,))},
                        {5: table(Z, (1,), (0,), (0,))},
                        {5: table(Q, (1,), (0,), (0,))}, {4: table(Q, (1, 0))},
                        {2: table(Z, (1,), (1,), (-1,)), 3: table(Z, (1, 0, 0))})
        # The columns span the kernel over the fractions, but not all integer vectors in it.
        self.reject(("integer kernel", table(Z, (1, 1)), table(Z, (2,), (-2,)), table(Z, (1, 0)), table(Q, (1,)),
                     table(Q, (1,), (0,))))
        halves = (1, 2, (((1, 2), (0, 1)),))
        self.reject(("integer kernel", table(Z, (1, 1)), table(Z, (2,), (-2,)), halves, table(Q, (1,)),
                     table(Q, (1,), (0,))))
        # The kernel is larger.
        self.reject(("integer kernel", table(Z, (0, 0)), table(Z, (1,), (0,)), table(Z, (1, 0)), table(Q, (1,)),
                     table(Q, (1,), (0,))))
        self.accept(("integer kernel", NONE, NONE, NONE, NONE, NONE))
        self.accept(("integer kernel", (0, 2, ()), identity(Z, 2), identity(Z, 2), NONE, (2, 0, ((), ()))))
        self.accept(("integer kernel", identity(Z, 2), (2, 0, ((), ())), (0, 2, ()), identity(Q, 2), identity(Q, 2)))
        self.accept(("integer kernel", (2, 0, ((), ())), NONE, NONE, (0, 2, ()), NONE))


class LatticeTest(ClaimTest):
    """Point 144: lattices."""

    def test_member(self):
        self.check_form(("member", table(Z, (1, 2), (0, 3)), (2, 1), (2, -1)), {1: table(Z, (1, 2), (0, 4))},
                        {1: table(Q, (1, 2), (0, 3))}, {2: (2, 2)}, {2: (2,)}, {2: vector(Q, 2, 1)}, {3: (2, 1)},
                        {3: (2,)},
                        {3: (2, -1, 0)}, {3: vector(Q, 2, -1)})
        self.accept(("member", (0, 2, ()), (0, 0), ()))
        self.reject(("member", (0, 2, ()), (0, 1), ()))
        self.accept(("member", (1, 0, ((),)), (), (5,)))

    def test_not_member(self):
        half, none = (1, 2), (0, 1)
        self.check_form(("not member", table(Z, (2, 1), (0, 4)), (1, 1), (half, none)), {1: table(Z, (3, 1), (0, 4))},
                        {1: table(Q, (2, 1), (0, 4))}, {2: (2, 1)}, {2: (1,)}, {2: (1, 1, 0)}, {2: vector(Q, 1, 1)},
                        {3: (half, half)}, {3: (none, none)}, {3: (half,)}, {3: (1, 0)}, {3: (half, none, none)})
        self.accept(("not member", (0, 2, ()), (0, 1), (none, half)))
        self.reject(("not member", (0, 2, ()), (0, 2), (none, half)))
        self.reject(("not member", NONE, (), ()))

    def test_same_lattice(self):
        a, b = table(Z, (2, 1), (0, 3)), table(Z, (2, 4), (2, 1), (4, 5))
        u, v = table(Z, (1, 1), (1, 0), (2, 1)), table(Z, (0, 1, 0), (1, -1, 0))
        self.check_form(("same lattice", a, b, u, v), {1: table(Z, (2, 1), (0, 6))}, {1: table(Q, (2, 1), (0, 3))},
                        {2: table(Z, (2, 4), (2, 1), (4, 6))}, {3: table(Z, (1, 1), (1, 0), (2, 2))},
                        {3: identity(Z, 2)},
                        {3: table(Q, (1, 1), (1, 0), (2, 1))}, {4: table(Z, (0, 1, 0), (1, -1, 1))},
                        {4: identity(Z, 3)},
                        {2: table(Z, (4, 2), (0, 3)), 3: table(Z, (2, 0), (0, 1)), 4: identity(Z, 2)})
        self.accept(("same lattice", b, a, v, u))
        self.accept(("same lattice", (0, 2, ()), (0, 2, ()), NONE, NONE))
        self.accept(("same lattice", (0, 2, ()), table(Z, (0, 0)), (1, 0, ((),)), (0, 1, ())))
        self.reject(("same lattice", (0, 2, ()), (0, 3, ()), NONE, NONE))
        self.reject(("same lattice", (0, 2, ()), table(Z, (0, 1)), (1, 0, ((),)), (0, 1, ())))

    def test_other_lattice(self):
        half, none = (1, 2), (0, 1)
        a, b = table(Z, (0, 2), (1, 0)), table(Z, (0, 2), (2, 0))
        good = ("other lattice", a, b, 0, 1, (half, none))
        self.check_form(good, {1: b}, {1: table(Q, (0, 2), (1, 0))}, {2: a}, {3: 1}, {3: 2}, {3: -1}, {4: 0}, {4: 2},
                        {4: -1},
                        {5: (none, none)}, {5: (none, half)}, {5: (half,)}, {5: (half, none, none)}, {3: False},
                        {4: True})
        good = ("other lattice", b, a, 1, 1, (half, none))
        self.check_form(good, {1: a}, {2: b}, {3: 0}, {3: -1}, {3: 2}, {3: True}, {4: 0}, {4: 2}, {4: -1}, {4: True},
                        {5: (none, half)})
        self.accept(("other lattice", (0, 1, ()), table(Z, (1,)), 1, 0, (half,)))
        self.reject(("other lattice", (0, 1, ()), table(Z, (1,)), 0, 0, (half,)))
        self.reject(("other lattice", (0, 1, ()), (1, 2, ((1, 0),)), 1, 0, (half, none)))
        # The columns differ, though the condition on the vectors holds.
        self.reject(("other lattice", (0, 2, ()), table(Z, (1,)), 1, 0, (half, none)))
        self.reject(("other lattice", (0, 2, ()), table(Z, (1,)), 1, 0, (half,)))

    def test_reduced(self):
        a, r = table(Z, (1, 2), (3, 4)), table(Z, (1, 0), (0, 2))
        u, v = table(Z, (-2, 1), (3, -1)), table(Z, (1, 1), (3, 2))
        self.check_form(("reduced", a, r, u, v), {1: table(Z, (1, 2), (3, 5))}, {1: table(Z, (1, 2))},
                        {1: table(Q, (1, 2), (3, 4))},
                        {2: table(Z, (1, 0), (0, 1))}, {2: a, 3: identity(Z, 2), 4: identity(Z, 2)},
                        {3: table(Z, (-2, 1), (3, 1))},
                        {3: identity(Z, 3)}, {4: table(Z, (1, 1), (3, 1))}, {4: identity(Z, 1)},
                        {2: table(Z, (0, 2), (1, 0)), 3: table(Z, (3, -1), (-2, 1)), 4: table(Z, (1, 1), (2, 3))})
        for b in ([(2, 0), (1, 2)], [(4, 0, 0, 0), (0, 2, 2, 2)], [(5,)], [(0, 0, 1)]):
            self.judge_basis(self.accept, b)
        for b in ([(2, 0), (2, 2)], [(4, 0, 0, 0), (0, 3, 1, 1)], [(0,)], [(1, 0), (0, 0)], [(1,), (0,)],
                  [(1, 2), (2, 4)],
                  [(200, 0), (101, 200)], [(3, 0), (0, 2)]):
            self.judge_basis(self.reject, b)
        self.accept(("reduced", (0, 3, ()), (0, 3, ()), NONE, NONE))
        self.accept(("reduced", NONE, NONE, NONE, NONE))
        self.reject(("reduced", (1, 0, ((),)), (1, 0, ((),)), identity(Z, 1), identity(Z, 1)))
        # u has no inverse.
        self.reject(("reduced", identity(Z, 1), table(Z, (2,)), table(Z, (2,)), identity(Z, 1)))
        # Bases of many rows.
        self.judge_basis(self.accept, identity(Z, 40)[2])
        self.judge_basis(self.reject, identity(Z, 41)[2])

    def judge_basis(self, judged, rows):
        b = (len(rows), len(rows[0]), tuple(rows))
        unit = identity(Z, len(rows))
        judged(("reduced", b, b, unit, unit))

    def test_shortest(self):
        a, r = table(Z, (1, 2), (3, 4)), table(Z, (1, 0), (0, 2))
        u, v = table(Z, (-2, 1), (3, -1)), table(Z, (1, 1), (3, 2))
        good = ("shortest", a, (-1, 0), r, u, v, (-1, 0))
        self.check_form(good, {1: table(Z, (1, 2), (3, 5))}, {2: (1, 0)}, {2: (0, 2), 6: (0, 1)},
                        {2: (0, 0), 6: (0, 0)},
                        {2: (-1,)}, {2: (-1, 0, 0)}, {2: vector(Q, -1, 0)},
                        {3: a, 4: identity(Z, 2), 5: identity(Z, 2)}, {3: identity(Z, 2)},
                        {4: v}, {5: u}, {6: (1, 0)}, {6: (-1,)}, {6: (-1, 0, 0)}, {6: vector(Q, -1, 0)})
        # The last row of a reduced basis may be the shortest one.
        rows = table(Z, (4, 0, 0, 0), (0, 2, 2, 2))
        unit = identity(Z, 2)
        self.accept(("shortest", rows, (0, 2, 2, 2), rows, unit, unit, (0, 1)))
        self.reject(("shortest", rows, (4, 0, 0, 0), rows, unit, unit, (1, 0)))
        # A combination may be shorter than all rows of a reduced basis.
        rows = table(Z, (2, -4, 3), (-4, -2, 3), (-4, -1, -3))
        unit = identity(Z, 3)
        self.accept(("reduced", rows, rows, unit, unit))
        self.accept(("shortest", rows, (2, -3, -3), rows, unit, unit, (1, -1, 1)))
        self.reject(("shortest", rows, rows[2][2], rows, unit, unit, (0, 0, 1)))

    def test_rows_of_shortest(self):
        for m, judged in ((1, self.accept), (6, self.accept), (7, self.reject), (40, self.reject)):
            unit = identity(Z, m)
            judged(("shortest", unit, unit[2][0], unit, unit, unit, unit[2][0]))
            self.accept(("reduced", unit, unit, unit, unit))
        self.reject(("shortest", (0, 2, ()), (0, 0), (0, 2, ()), NONE, NONE, ()))
        self.reject(("shortest", NONE, (), NONE, NONE, NONE, ()))

    def test_long_vectors(self):
        big = 10 ** 300
        rows = table(Z, (1, 0, 0), (0, big, 0), (0, 0, big * big))
        unit = identity(Z, 3)
        self.accept(("shortest", rows, (1, 0, 0), rows, unit, unit, (1, 0, 0)))
        self.reject(("shortest", rows, (0, big, 0), rows, unit, unit, (0, 1, 0)))


class LimitTest(ClaimTest):
    """Point 140: kinds of domains, and matrices of many rows or columns."""

    def test_domains(self):
        for d in NO_RINGS:
            self.reject(("greatest", d, 1, 1, 1, 1, 0, 1, 1))
            self.reject(("greatest", d) + ((),) * 7)
            self.reject(("hermite", d, NONE, NONE, NONE, NONE))
            self.reject(("smith", d) + (NONE,) * 6)
        for d in (Z, Q, PQ, P7, ("F", 4), ("F", 65537), ("F", True), None, "F", ["F", 7], ("F", (7,))):
            self.reject(("factors", d, (1,), ()))
            self.reject(("factors", d, ((1, 1),), ()))
            self.reject(("factors", d, 1, ()))

    def test_rows_and_columns(self):
        for e in (Z, P2):
            for n, judged in ((11, self.accept), (40, self.accept), (41, self.reject)):
                unit = identity(e, n)
                judged(("hermite", e, unit, unit, unit, unit))
                judged(("hermite", e, (0, n, ()), (0, n, ()), NONE, NONE))
                judged(("smith", e, unit, unit, unit, unit, unit, unit))
                judged(("smith", e, (0, n, ()), (0, n, ()), NONE, unit, NONE, unit))
        for n, judged in ((40, self.accept), (41, self.reject)):
            judged(("member", (n, 0, ((),) * n), (), (0,) * n))
            judged(("not member", (0, n, ()), (1,) * n, ((1, 2),) + ((0, 1),) * (n - 1)))
            judged(("same lattice", (n, 0, ((),) * n), NONE, (0, n, ()), (n, 0, ((),) * n)))
            judged(("other lattice", (0, n, ()), (1, n, ((1,) * n,)), 1, 0, ((1, 2),) + ((0, 1),) * (n - 1)))
            judged(("integer kernel", (n, 0, ((),) * n), NONE, NONE, (0, n, ()), NONE))
            judged(("reduced", (0, n, ()), (0, n, ()), NONE, NONE))
            judged(("no integer solution", (n, 0, ((),) * n), (1,) * n, ((1, 2),) + ((0, 1),) * (n - 1)))


if __name__ == "__main__":
    unittest.main()
