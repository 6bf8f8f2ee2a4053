"""Points 140, 146 and 147: any values for the judge, and what it accepts is true."""

import unittest

from echelon.answers import answer
from echelon.domains import greatest, is_euclidean, is_field, normal, zero
from echelon.elimination import determinant, kernel, rank, reduce, solve
from echelon.euclid import (
    determinant_of, hermite, integer_kernel, integer_solve, same_lattice, smith,
)
from echelon.factoring import factor
from echelon.frobenius import invariant_factors, similarity
from echelon.jordan import jordan
from echelon.judge import judge
from echelon.lattices import is_reduced
from echelon.matrices import applied, change, identity, row_times, times, transposed
from echelon.operators import characteristic, minimal
from echelon.shortest import minimal_vectors
from tests.claims import F2, F7, P2, PQ, Q, Z, ClaimTest, replaced, spots, table
from tests.sample import EUCLIDEAN, FIELDS, Sample

NAMES = (
    "rank", "echelon", "kernel", "solution", "no solution", "inverse", "singular", "similar",
    "not similar", "determinant", "greatest", "hermite", "smith", "factors", "integer solution",
    "no integer solution", "integer kernel", "member", "not member", "same lattice",
    "other lattice", "reduced", "shortest", "frobenius", "characteristic", "minimal", "jordan",
    "no jordan",
)


def nested(many, inside=()):
    """So many tuples within one another, around one that is given."""
    out = inside
    for _ in range(many):
        out = (out,)
    return out


def questions(take):
    """Questions of all kinds about small values."""
    for f in FIELDS[:4]:
        m, n = take.below(4), take.below(4)
        a, b = take.matrix(f, m, n, 0, 1), take.vector(f, m, 0, 1)
        c, e = take.matrix(f, m, m, 0, 1), take.matrix(f, m, m, 0, 1)
        for kind in ("rank", "echelon", "kernel"):
            yield kind, f, a
        yield "solve", f, a, b
        for kind in ("invert", "determinant", "frobenius", "characteristic", "minimal", "jordan"):
            yield kind, f, c
        yield "similar", f, c, c
        yield "similar", f, c, e
        if f != Q:
            yield "factor", f, take.polynomial(f, take.below(6), 1)
    for e in EUCLIDEAN[:3]:
        a = take.matrix(e, take.below(3), take.below(3), 1, 1)
        yield "hermite", e, a
        yield "smith", e, a
        yield "greatest", e, take.one_of(e, 2, 1), take.one_of(e, 2, 1)
    m, n = take.below(4), take.below(4)
    a = take.matrix(Z, m, n, 0, 1)
    b = take.matrix(Z, take.below(4), n, 0, 1)
    yield "determinant", Z, take.matrix(Z, m, m, 0, 1)
    yield "integer kernel", a
    yield "integer solve", a, take.vector(Z, m, 0, 1)
    yield "member", a, take.vector(Z, n, 0, 1)
    yield "lattice", a, a
    yield "lattice", a, b
    m = take.between(1, 3)
    rows = take.matrix(Z, m, m + 1, 0, 1)
    if rank(Q, change(Z, Q, rows)) == m:
        yield "reduce", rows
        yield "shortest", rows


def over_field(claim):
    """Whether a claim about elimination over a field is true, by the functions that find answers."""
    kind, f, a = claim[:3]
    if kind == "rank":
        return claim[3] == rank(f, a)
    if kind == "echelon":
        return claim[3] == reduce(f, a)[0]
    if kind == "kernel":
        k = claim[3]
        held = rank(f, k) == k[1] == kernel(f, a)[1]
        return held and all(x == zero(f) for row in times(f, a, k)[2] for x in row)
    if kind == "solution":
        return applied(f, a, claim[4]) == claim[3]
    if kind == "no solution":
        return solve(f, a, claim[3]) is None
    if kind == "inverse":
        return times(f, claim[3], a) == identity(f, a[0])
    if kind == "singular":
        return a[0] == a[1] and rank(f, a) < a[0]
    return None


def over_ring(claim):
    """Likewise for claims over Euclidean domains and about factors."""
    kind, e, a = claim[:3]
    if kind == "greatest":
        return claim[4] == greatest(e, a, claim[3])[0] == normal(e, claim[4])[0]
    if kind == "hermite":
        return claim[3] == hermite(e, a)[0]
    if kind == "smith":
        return claim[3] == smith(e, a)[0]
    if kind == "factors":
        return claim[3] == tuple(factor(e, a))
    return None


def over_integers(claim):
    """Likewise for claims over the integers."""
    kind, a, x = claim[:3]
    if kind == "integer solution":
        return applied(Z, a, claim[3]) == x
    if kind == "no integer solution":
        return integer_solve(a, x) is None
    if kind == "integer kernel":
        return same_lattice(transposed(x), transposed(integer_kernel(a)))
    if kind == "member":
        return row_times(Z, claim[3], a) == x
    if kind == "not member":
        return integer_solve(transposed(a), x) is None
    if kind == "same lattice":
        return same_lattice(a, x)
    if kind == "other lattice":
        return not same_lattice(a, x)
    if kind == "reduced":
        return same_lattice(a, x) and is_reduced(x) and a[0] == x[0]
    if kind == "shortest":
        return x in minimal_vectors(a) or tuple(-c for c in x) in minimal_vectors(a)
    return None


def about_operators(claim):
    """Likewise for claims about operators."""
    kind, f, a = claim[:3]
    if kind in ("similar", "not similar"):
        return (similarity(f, a, claim[3]) is not None) == (kind == "similar")
    if kind == "frobenius":
        return claim[3] == invariant_factors(f, a)
    if kind == "characteristic":
        return claim[3] == characteristic(f, a)
    if kind == "minimal":
        return claim[3] == minimal(f, a)
    if kind == "jordan":
        return claim[3] == jordan(f, a)[0]
    if kind == "no jordan":
        return jordan(f, a) is None
    if kind == "determinant":
        return claim[3] == (determinant_of(f, a) if f == Z else determinant(f, a))
    return None


def is_true(claim):
    """Whether what a claim says is true, by point 147."""
    found = [told for told in (over_field(claim), over_ring(claim), over_integers(claim), about_operators(claim))
             if told is not None]
    assert len(found) == 1, claim
    return found[0]


class AnyValueTest(ClaimTest):
    """Point 146."""

    def test_values_that_are_no_claims(self):
        for value in (None, True, False, 0, 1, -1, 10 ** 5000, -10 ** 5000, "", "rank", "inverse", "()", (), ((),),
                      (None,), (True,), (0,), ("",), ("rank",), (("rank",),), ("rank", "rank"), ((), (), ()), [],
                      ["rank"], (["rank"], 1), ([], []), ("unknown", Q, (0, 0, ())), ("Rank", Q), ("inverse ", Q),
                      ("integer-solution", 1, 2, 3), ("nosolution",), (("inverse", Q, (0, 0, ()), (0, 0, ())),),
                      ("a b c", 1), ("~!@#$^&*()_+", ()), ("\n",)):
            self.reject(value)

    def test_names_with_any_parts(self):
        big = 10 ** 6000
        parts = (None, True, False, 0, 1, -1, big, "", "Q", (), ((),), ("Q",), ("Z",), ("F", 2), ("F", big),
                 ("F", -big),
                 ("P", ("Q",)), (0, 0, ()), (0, 0, ((),)), (1, 1, ((1,),)), (big, big, ()), (-1, 0, ()), (1, 1, (1,)),
                 (1, 1, (("x",),)), (None, None, None), nested(58), [], ["Q"], (0, 0, []), (2, 2, ((1, 2), (3, 4))))
        take = Sample(251)
        for name in NAMES:
            for many in range(11):
                for part in parts:
                    self.assertIn(judge((name,) + (part,) * many), (True, False))
                for _ in range(30):
                    claim = (name,) + tuple(parts[take.below(len(parts))] for _ in range(many))
                    self.assertIn(judge(claim), (True, False))
                self.reject((name,) + (None,) * many)
                self.reject((name,) + (True,) * many)

    def test_parts_that_are_deep(self):
        take = Sample(252)
        for question in questions(take):
            claim = answer(question)
            self.accept(claim)
            for path, _ in spots(claim):
                if path:
                    deep = nested(60 - len(path) - 1)
                    self.reject(replaced(claim, path, deep + (1,)))
                    self.assertIn(judge(replaced(claim, path, deep)), (True, False))
        self.reject(nested(60))
        self.reject(nested(60, ("rank",)))
        self.reject(("rank",) + nested(59))

    def test_values_with_many_parts(self):
        many = 199990
        long = tuple(range(many))
        for value in (long, ("rank",) + long, (long,), ("rank", long), nested(50, long),
                      ("solution", Q, (0, 0, ()), long, long[:9]),
                      ("solution", F2, (1, many, ((1,) * many,)), (1,), ()),
                      ("solution", F2, (many, 0, ((),) * many), (), ()),
                      ("factors", F2, (1,) * many, ()), ("factors", F2, (1,), (((0, 1), 1),) * (many // 5)),
                      ("factors", F2, (1,), ((1,) * many,)),
                      ("jordan", F2, (0, 0, ()), ((1, 1),) * (many // 3), (0, 0, ()), (0, 0, ())),
                      ("frobenius", F2, (0, 0, ()), ((1, 1),) * (many // 3), (0, 0, ()), (0, 0, ())),
                      ("determinant", F2, (0, 0, ()), 1, long, (0, 0, ()), (0, 0, ())),
                      ("member", (1, 1, ((1,),)), long, (1,)), ("not member", (0, 1, ()), long, long),
                      ("greatest", P2, (1,) * (many // 2), (1,) * (many // 2 - 9), (1,), (1,), (1,), (1,), (1,)),
                      ("greatest", PQ, ((1, 2),) * (many // 3), (), (), (), (), (), ()), (("rank",),) * many,
                      ("",) * many):
            self.reject(value)
        n = 40
        rows = tuple(tuple((1, (i * j) % 7 + 1) for j in range(n)) for i in range(n))
        a = (n, n, rows)
        unit = identity(Q, n)
        self.reject(("inverse", Q, a, a))
        self.reject(("echelon", Q, a, a, a, a))
        self.accept(("similar", Q, a, a, unit, unit))

    def test_large_polynomials_in_matrices(self):
        n = 40
        long = (1,) * 60 + (1,)
        a = (n, n, tuple(tuple(long if i <= j else () for j in range(n)) for i in range(n)))
        unit = identity(P2, n)
        self.reject(("hermite", P2, a, a, unit, unit))
        short = (1,) * 60
        a = (n, n, tuple(tuple(long if i == j else short if i < j else () for j in range(n)) for i in range(n)))
        self.accept(("hermite", P2, a, a, unit, unit))
        a = (n, n, tuple(tuple(long if i == j else () for j in range(n)) for i in range(n)))
        self.accept(("smith", P2, a, a, unit, unit, unit, unit))

    def test_integers_of_any_size(self):
        big = 10 ** 100000
        for claim in (("inverse", ("F", big), (0, 0, ()), (0, 0, ())), ("inverse", Q, (big, big, ()), (0, 0, ())),
                      ("rank", Q, (0, 0, ()), big) + ((0, 0, ()),) * 4,
                      ("other lattice", (0, 1, ()), (1, 1, ((1,),)), big, 0, ((1, 2),)),
                      ("other lattice", (0, 1, ()), (1, 1, ((1,),)), 1, big, ((1, 2),)),
                      ("factors", F7, (0, 1), (((0, 1), big),)),
                      ("factors", F7, (big, 1), (((big, 1), 1),)),
                      ("jordan", Q, identity(Q, 1), (((1, 1), big),)) + (identity(Q, 1),) * 2,
                      ("determinant", F2, (1, 1, ((1,),)), 1, (big,), (1, 1, ((1,),)), (1, 1, ((1,),)))):
            self.reject(claim)
        self.accept(("integer solution", (1, 1, ((big,),)), (big * big,), (big,)))
        self.reject(("integer solution", (1, 1, ((big,),)), (big * big + 1,), (big,)))
        self.accept(("shortest", (1, 1, ((big,),)), (-big,), (1, 1, ((big,),)), identity(Z, 1), identity(Z, 1),
                     (-1,)))
        self.accept(("greatest", Z, big, big, big, 1, 0, 1, 1))
        self.accept(("inverse", Q, (1, 1, (((1, big),),)), (1, 1, (((big, 1),),))))


class TruthTest(ClaimTest):
    """Points 1 and 147."""

    def test_answers_are_accepted_and_true(self):
        take = Sample(253)
        names = set()
        for _ in range(12):
            for question in questions(take):
                claim = answer(question)
                self.accept(claim)
                self.assertTrue(is_true(claim), claim)
                names.add(claim[0])
        self.assertEqual(names, set(NAMES))

    def test_changed_claims_that_are_accepted_are_true(self):
        take = Sample(254)
        accepted = rejected = 0
        for _ in range(6):
            for question in questions(take):
                claim = answer(question)
                places = [(path, part) for path, part in spots(claim) if type(part) is int and path[0] != 1]
                if question[0] in ("integer kernel", "integer solve", "member", "lattice", "reduce", "shortest"):
                    places = [(path, part) for path, part in spots(claim) if type(part) is int]
                for _ in range(12 if places else 0):
                    path, part = places[take.below(len(places))]
                    other = replaced(claim, path, part + (1, -1, 2, -2, 7)[take.below(5)])
                    if judge(other):
                        accepted += 1
                        self.assertTrue(is_true(other), other)
                    else:
                        rejected += 1
        self.assertGreater(accepted, 20)
        self.assertGreater(rejected, 1000)

    def test_mixed_claims_that_are_accepted_are_true(self):
        take = Sample(255)
        held = {}
        for _ in range(8):
            for question in questions(take):
                claim = answer(question)
                held.setdefault(claim[0], []).append(claim)
        accepted = 0
        for claims in held.values():
            for _ in range(40):
                first, second = claims[take.below(len(claims))], claims[take.below(len(claims))]
                at = take.between(1, len(first) - 1)
                other = first[:at] + second[at:at + 1] + first[at + 1:]
                if judge(other):
                    accepted += 1
                    self.assertTrue(is_true(other), other)
        self.assertGreater(accepted, 20)

    def test_domains_of_answers(self):
        take = Sample(256)
        for question in questions(take):
            claim = answer(question)
            if is_field(claim[1]) or is_euclidean(claim[1]):
                for d in (Z, Q, F2, F7, PQ, P2, ("F", 11)):
                    if d != claim[1] and judge(claim[:1] + (d,) + claim[2:]):
                        self.assertTrue(is_true(claim[:1] + (d,) + claim[2:]))

    def test_the_same_claim_again(self):
        a = table(Q, (1, 2), (3, 4))
        claim = answer(("rank", Q, a))
        copy = answer(("rank", Q, table(Q, (1, 2), (3, 4))))
        for _ in range(3):
            self.accept(claim)
            self.assertEqual(claim, copy)


if __name__ == "__main__":
    unittest.main()
