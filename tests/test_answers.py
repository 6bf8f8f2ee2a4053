"""Points 1, 148 and 149: answers to questions."""

import unittest

from echelon.answers import answer
from echelon.domains import from_integer, greatest, multiply, one, zero
from echelon.elimination import determinant, inverted, kernel, rank, reduce, refute, solve
from echelon.errors import DomainError, ShapeError, SingularError
from echelon.euclid import (
    determinant_of, hermite, integer_kernel, integer_refute, integer_solve, same_lattice, smith,
)
from echelon.factoring import factor
from echelon.frobenius import invariant_factors, similarity
from echelon.jordan import jordan
from echelon.judge import judge
from echelon.lattices import basis_of, reduce_basis
from echelon.matrices import change, diagonal, identity, times, transposed, zero_matrix
from echelon.operators import characteristic, companion, minimal
from echelon.roads import characteristic_by_primes, determinant_by_primes, rank_by_primes
from echelon.shortest import shortest
from tests.claims import F2, F7, LARGE, P2, P7, PQ, Q, Z, poly, table, vector
from tests.sample import DOMAINS, EUCLIDEAN, FIELDS, NO_DOMAINS, Sample
from tests.test_judge import is_true
from tests.test_lattices import DEPENDENT
from tests.test_operators import block, mixed

NONE = (0, 0, ())


class AnswerTest(unittest.TestCase):
    def ask(self, *question):
        """The claim that answers a question: the judge accepts it, and it is about the question."""
        claim = answer(question)
        self.assertIs(type(claim), tuple)
        self.assertIs(judge(claim), True, question)
        self.assertEqual(claim[1:len(question)], question[1:])
        self.assertEqual(repr(answer(question)), repr(claim))
        return claim


def shapes(take, d, many=14, largest=4):
    for m, n in take.sizes(many, largest):
        yield take.matrix(d, m, n, 2, 1)
    for m, n in ((2, 3), (3, 3), (0, 4), (4, 0)):
        yield zero_matrix(d, m, n)
    yield times(d, take.matrix(d, 3, 1, 1, 1), take.matrix(d, 1, 4, 1, 1))
    yield times(d, take.matrix(d, 4, 2, 1, 1), take.matrix(d, 2, 3, 1, 1))


class FieldTest(AnswerTest):
    """Questions over a field."""

    def test_rank_echelon_kernel(self):
        take = Sample(271)
        for f in FIELDS:
            for a in shapes(take, f):
                claim = self.ask("rank", f, a)
                self.assertEqual((claim[0], claim[3]), ("rank", rank(f, a)))
                claim = self.ask("echelon", f, a)
                self.assertEqual((claim[0], claim[3]), ("echelon", reduce(f, a)[0]))
                claim = self.ask("kernel", f, a)
                self.assertEqual((claim[0], claim[3]), ("kernel", kernel(f, a)))

    def test_solve(self):
        take = Sample(272)
        for f in FIELDS:
            names = set()
            for a in shapes(take, f):
                for b in (take.vector(f, a[0], 0, 1), (zero(f),) * a[0]):
                    claim = self.ask("solve", f, a, b)
                    x = solve(f, a, b)
                    if x is None:
                        self.assertEqual((claim[0], claim[4]), ("no solution", refute(f, a, b)))
                    else:
                        self.assertEqual((claim[0], claim[4]), ("solution", x))
                    names.add(claim[0])
            self.assertEqual(len(names), 2)

    def test_invert(self):
        take = Sample(273)
        for f in FIELDS:
            for n in range(6):
                for a in (take.matrix(f, n, n, 0, 1), identity(f, n), zero_matrix(f, n, n),
                          times(f, take.matrix(f, n, 1, 0, 1), take.matrix(f, 1, n, 0, 1))):
                    claim = self.ask("invert", f, a)
                    if rank(f, a) == n:
                        self.assertEqual(claim, ("inverse", f, a, inverted(f, a)))
                    else:
                        self.assertEqual(claim[0], "singular")

    def test_determinant(self):
        take = Sample(274)
        for d in FIELDS + (Z,):
            for n in range(6):
                for a in (take.matrix(d, n, n, 0, 1), identity(d, n), zero_matrix(d, n, n),
                          take.matrix(d, n, n, 0, 9),
                          times(d, take.matrix(d, n, 1, 0, 1), take.matrix(d, 1, n, 0, 1))):
                    claim = self.ask("determinant", d, a)
                    x = determinant_of(d, a) if d == Z else determinant(d, a)
                    self.assertEqual((claim[0], claim[3]), ("determinant", x))
        swapped = table(Z, (0, 0, 1), (1, 0, 0), (0, 2, 0))
        self.assertEqual(self.ask("determinant", Z, swapped)[3], 2)

    def test_similar(self):
        take = Sample(275)
        for f in FIELDS:
            for n in range(5):
                a = take.matrix(f, n, n, 0, 1)
                for b in (a, mixed(f, take, a), take.matrix(f, n, n, 0, 1), identity(f, n)):
                    claim = self.ask("similar", f, a, b)
                    held = similarity(f, a, b) is not None
                    self.assertEqual(claim[0], "similar" if held else "not similar")
            # The characteristic and the minimal polynomials are alike.
            x = one(f)
            a = diagonal(f, [block(f, x, 2), block(f, x, 2)])
            b = diagonal(f, [block(f, x, 2), block(f, x, 1), block(f, x, 1)])
            self.assertEqual(self.ask("similar", f, a, b)[0], "not similar")
            self.assertEqual(self.ask("similar", f, b, mixed(f, take, b))[0], "similar")

    def test_operators(self):
        take = Sample(276)
        for f in FIELDS:
            x, y = one(f), zero(f)
            kinds = [take.matrix(f, n, n, 0, 1) for n in range(6) for _ in range(2)]
            kinds += [identity(f, 3), zero_matrix(f, 4, 4),
                      diagonal(f, [block(f, x, 2), block(f, y, 1), block(f, x, 1)])]
            kinds += [mixed(f, take, diagonal(f, [block(f, x, 3), block(f, y, 2)]))]
            kinds += [mixed(f, take, diagonal(f, [take.matrix(f, 2, 2, 0, 1)] * 2))]
            names = set()
            for a in kinds:
                claim = self.ask("frobenius", f, a)
                self.assertEqual((claim[0], claim[3]), ("frobenius", invariant_factors(f, a)))
                claim = self.ask("characteristic", f, a)
                self.assertEqual((claim[0], claim[3]), ("characteristic", characteristic(f, a)))
                claim = self.ask("minimal", f, a)
                self.assertEqual((claim[0], claim[3]), ("minimal", minimal(f, a)))
                claim = self.ask("jordan", f, a)
                form = jordan(f, a)
                if form is None:
                    self.assertEqual((claim[0], claim[3]), ("no jordan", invariant_factors(f, a)))
                else:
                    self.assertEqual((claim[0], claim[3]), ("jordan", form[0]))
                names.add(claim[0])
            self.assertEqual(names, {"jordan", "no jordan"})
        for f, g in ((Q, poly(Q, -2, 0, 1)), (F2, (1, 1, 1)), (LARGE, poly(LARGE, -17, 0, 1))):
            self.assertEqual(self.ask("jordan", f, companion(f, g))[0], "no jordan")


class RingTest(AnswerTest):
    """Questions over Euclidean domains and about factors."""

    def test_hermite_and_smith(self):
        take = Sample(277)
        for e in EUCLIDEAN:
            for a in shapes(take, e, 12, 3):
                claim = self.ask("hermite", e, a)
                self.assertEqual((claim[0], claim[3]), ("hermite", hermite(e, a)[0]))
                claim = self.ask("smith", e, a)
                self.assertEqual((claim[0], claim[3]), ("smith", smith(e, a)[0]))

    def test_greatest(self):
        take = Sample(278)
        for e in EUCLIDEAN:
            for _ in range(30):
                x, y, z = take.one_of(e, 3, 2), take.one_of(e, 3, 2), take.one_of(e, 3, 2)
                for p, q in ((x, y), (multiply(e, x, z), multiply(e, y, z)), (x, zero(e)), (zero(e), y), (x, x)):
                    claim = self.ask("greatest", e, p, q)
                    self.assertEqual((claim[0],) + claim[4:7], ("greatest",) + greatest(e, p, q))
            self.assertEqual(self.ask("greatest", e, zero(e), zero(e))[4], zero(e))

    def test_factor(self):
        take = Sample(279)
        for f in FIELDS:
            if f == Q:
                continue
            for degree in (0, 1, 2, 5, 12, 30):
                g = take.polynomial(f, degree, 1)
                for h in (g, multiply(("P", f), g, g)):
                    self.assertEqual(self.ask("factor", f, h), ("factors", f, h, tuple(factor(f, h))))
        self.assertEqual(self.ask("factor", F7, (3,)), ("factors", F7, (3,), ()))


class IntegerTest(AnswerTest):
    """Questions over the integers."""

    def test_integer_solve(self):
        take = Sample(280)
        names = set()
        for a in shapes(take, Z):
            for b in (take.vector(Z, a[0], 0, 1), (0,) * a[0], tuple(sum(row) for row in a[2])):
                claim = self.ask("integer solve", a, b)
                x = integer_solve(a, b)
                if x is None:
                    self.assertEqual(claim, ("no integer solution", a, b, integer_refute(a, b)))
                else:
                    self.assertEqual(claim, ("integer solution", a, b, x))
                names.add(claim[0])
        self.assertEqual(len(names), 2)

    def test_integer_kernel(self):
        take = Sample(281)
        for a in shapes(take, Z):
            claim = self.ask("integer kernel", a)
            self.assertEqual((claim[0], claim[2]), ("integer kernel", integer_kernel(a)))

    def test_member_and_lattice(self):
        take = Sample(282)
        names = set()
        for a in shapes(take, Z):
            for w in (take.vector(Z, a[1], 0, 1), (0,) * a[1],
                      tuple(sum(row[j] for row in a[2]) for j in range(a[1]))):
                claim = self.ask("member", a, w)
                held = integer_solve(transposed(a), w) is not None
                self.assertEqual(claim[0], "member" if held else "not member")
                names.add(claim[0])
            for b in (a, basis_of(a), take.matrix(Z, take.below(4), a[1], 0, 1), (0, a[1], ()), identity(Z, a[1]),
                      (a[0] + 1, a[1], ((0,) * a[1],) + a[2]),
                      (a[0], a[1], tuple(tuple(2 * x for x in row) for row in a[2]))):
                for claim in (self.ask("lattice", a, b), self.ask("lattice", b, a)):
                    self.assertEqual(claim[0], "same lattice" if same_lattice(a, b) else "other lattice")
                    names.add(claim[0])
                    if claim[0] == "other lattice":
                        names.add(claim[3])
        self.assertEqual(names, {"member", "not member", "same lattice", "other lattice", 0, 1})

    def test_reduce_and_shortest(self):
        take = Sample(283)
        for m in range(0, 7):
            for n in range(m, m + 3):
                for digits in (1, 3):
                    a = take.matrix(Z, m, n, 0, digits)
                    if rank(Q, change(Z, Q, a)) < m:
                        continue
                    claim = self.ask("reduce", a)
                    self.assertEqual(claim, ("reduced", a) + reduce_basis(a))
                    if m:
                        claim = self.ask("shortest", a)
                        self.assertEqual((claim[0], claim[2]), ("shortest", shortest(a)[0]))
        a = take.matrix(Z, 10, 10, 0, 40)
        self.assertEqual(self.ask("reduce", a)[0], "reduced")
        # Of several shortest vectors the first one.
        self.assertEqual(self.ask("shortest", identity(Z, 4))[2], (0, 0, 0, 1))


class EdgeTest(AnswerTest):
    def test_matrices_without_rows_or_columns(self):
        for f in FIELDS:
            for a in (NONE, (0, 3, ()), (2, 0, ((), ()))):
                for kind in ("rank", "echelon", "kernel"):
                    self.assertTrue(is_true(self.ask(kind, f, a)))
                self.ask("solve", f, a, (zero(f),) * a[0])
            self.assertEqual(self.ask("solve", f, (2, 0, ((), ())), (zero(f), one(f)))[0], "no solution")
            for kind, name in (("invert", "inverse"), ("determinant", "determinant"), ("frobenius", "frobenius"),
                               ("characteristic", "characteristic"), ("minimal", "minimal"), ("jordan", "jordan")):
                self.assertEqual(self.ask(kind, f, NONE)[0], name)
            self.assertEqual(self.ask("similar", f, NONE, NONE)[0], "similar")
        for e in EUCLIDEAN:
            for a in (NONE, (0, 3, ()), (2, 0, ((), ()))):
                self.ask("hermite", e, a)
                self.ask("smith", e, a)
        for a in (NONE, (0, 3, ()), (2, 0, ((), ()))):
            self.ask("integer kernel", a)
            self.assertEqual(self.ask("integer solve", a, (0,) * a[0])[0], "integer solution")
            self.assertEqual(self.ask("member", a, (0,) * a[1])[0], "member")
            self.assertEqual(self.ask("lattice", a, (0, a[1], ()))[0], "same lattice")
        self.assertEqual(self.ask("integer solve", (1, 0, ((),)), (1,))[0], "no integer solution")
        self.assertEqual(self.ask("member", (0, 1, ()), (1,))[0], "not member")
        self.assertEqual(self.ask("lattice", (0, 1, ()), (1, 1, ((1,),)))[0], "other lattice")
        self.assertEqual(self.ask("determinant", Z, NONE)[3], 1)
        self.assertEqual(self.ask("reduce", (0, 3, ()))[0], "reduced")

    def test_large_numbers(self):
        take = Sample(284)
        for f in FIELDS:
            digits = 12 if f == Q else 40
            a, b = take.matrix(f, 10, 10, 0, digits), take.vector(f, 10, 0, 40)
            for kind in ("rank", "echelon", "kernel", "invert", "determinant"):
                self.ask(kind, f, a)
            self.ask("solve", f, a, b)
            c = take.matrix(f, 6, 6, 0, digits)
            for kind in ("frobenius", "characteristic", "minimal", "jordan"):
                self.ask(kind, f, c)
            self.ask("similar", f, c, transposed(c))
        a, b = take.matrix(Z, 10, 10, 0, 40), take.vector(Z, 10, 0, 40)
        for kind in ("determinant", "hermite", "smith"):
            self.ask(kind, Z, a)
        self.ask("integer solve", a, b)
        self.ask("member", a, b)
        self.ask("lattice", a, a)
        self.ask("lattice", a, take.matrix(Z, 10, 10, 0, 40))
        self.ask("integer kernel", take.matrix(Z, 5, 10, 0, 40))
        self.ask("shortest", take.matrix(Z, 6, 10, 0, 12))
        self.ask("hermite", P7, take.matrix(P7, 5, 5, 6, 1))
        self.ask("smith", P7, take.matrix(P7, 5, 5, 6, 1))
        self.ask("hermite", PQ, take.matrix(PQ, 3, 3, 2, 2))
        self.ask("smith", PQ, take.matrix(PQ, 3, 3, 2, 2))

    def test_other_roads_have_the_same_answers(self):
        take = Sample(285)
        for n in (0, 1, 2, 4):
            for a in (take.matrix(Z, n, n, 0, 2), zero_matrix(Z, n, n)):
                over = change(Z, Q, a)
                self.assertEqual(self.ask("rank", Q, over)[3], rank_by_primes(a)[0])
                self.assertEqual(self.ask("determinant", Z, a)[3], determinant_by_primes(a)[0])
                self.assertEqual(self.ask("determinant", Q, over)[3], (determinant_by_primes(a)[0], 1))
                self.assertEqual(self.ask("characteristic", Q, over)[3],
                                 tuple((c, 1) for c in characteristic_by_primes(a)))


class ErrorTest(unittest.TestCase):
    """Point 149."""

    def refuse(self, error, *question):
        with self.assertRaises(error) as caught:
            answer(question)
        self.assertIs(type(caught.exception), error)

    def test_domains(self):
        square, wide = table(Z, (1,)), table(Z, (1, 2))
        for d in NO_DOMAINS + EUCLIDEAN:
            for a in (NONE, square, wide):
                for kind in ("rank", "echelon", "kernel", "invert", "frobenius", "characteristic", "minimal",
                             "jordan"):
                    self.refuse(DomainError, kind, d, a)
                self.refuse(DomainError, "solve", d, a, (1, 2, 3))
                self.refuse(DomainError, "similar", d, a, wide)
            self.refuse(DomainError, "factor", d, (1, 1))
            if d != Z:
                self.refuse(DomainError, "determinant", d, NONE)
                self.refuse(DomainError, "determinant", d, wide)
        for d in NO_DOMAINS + FIELDS:
            for kind in ("hermite", "smith"):
                self.refuse(DomainError, kind, d, NONE)
                self.refuse(DomainError, kind, d, wide)
            self.refuse(DomainError, "greatest", d, 1, 1)
        self.refuse(DomainError, "factor", Q, poly(Q, 1, 1))
        for d in (PQ, P2, P7):
            self.refuse(DomainError, "determinant", d, table(d, (1,)))

    def test_sizes(self):
        for f in FIELDS:
            for m, n in ((1, 2), (2, 1), (0, 1), (3, 0)):
                a = zero_matrix(f, m, n)
                for kind in ("invert", "determinant", "frobenius", "characteristic", "minimal", "jordan"):
                    self.refuse(ShapeError, kind, f, a)
                self.refuse(ShapeError, "similar", f, a, a)
                self.refuse(ShapeError, "similar", f, a, identity(f, m))
                self.refuse(ShapeError, "similar", f, identity(f, n), a)
                self.refuse(ShapeError, "solve", f, a, (zero(f),) * (m + 1))
            self.refuse(ShapeError, "similar", f, identity(f, 1), identity(f, 2))
            self.refuse(ShapeError, "solve", f, identity(f, 2), (from_integer(f, 1),))
        self.refuse(ShapeError, "determinant", Z, zero_matrix(Z, 1, 2))
        self.refuse(ShapeError, "integer solve", identity(Z, 2), (1, 2, 3))
        self.refuse(ShapeError, "integer solve", zero_matrix(Z, 1, 2), (1, 2))
        self.refuse(ShapeError, "member", zero_matrix(Z, 1, 2), (1,))
        self.refuse(ShapeError, "member", (0, 2, ()), ())
        self.refuse(ShapeError, "lattice", identity(Z, 2), identity(Z, 3))
        self.refuse(ShapeError, "lattice", (0, 2, ()), NONE)

    def test_bases(self):
        for a in DEPENDENT:
            self.refuse(SingularError, "reduce", a)
            self.refuse(SingularError, "shortest", a)
        for n in (0, 1, 6):
            self.refuse(SingularError, "shortest", (0, n, ()))
        for a in (identity(Z, 7), zero_matrix(Z, 7, 7), zero_matrix(Z, 8, 2)):
            self.refuse(ShapeError, "shortest", a)
        self.assertIs(judge(answer(("reduce", identity(Z, 7)))), True)
        self.refuse(SingularError, "reduce", zero_matrix(Z, 7, 7))

    def test_arguments_stay(self):
        take = Sample(286)
        for d in DOMAINS:
            a = take.matrix(d, 3, 3, 1, 1)
            copy = 3, 3, tuple(tuple(row) for row in a[2])
            kinds = ("hermite", "smith") if d in EUCLIDEAN else ("rank", "kernel", "invert", "jordan", "frobenius")
            for kind in kinds:
                question = (kind, d, a)
                answer(question)
                self.assertEqual(question, (kind, d, copy))
        self.assertEqual(answer(("solve", F7, table(F7, (2,)), vector(F7, 1))),
                         ("solution", F7, table(F7, (2,)), (1,), (4,)))


if __name__ == "__main__":
    unittest.main()
