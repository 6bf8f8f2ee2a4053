"""The interface: names, arguments, and the file in which each name is defined."""

import importlib
import inspect
import unittest

FUNCTIONS = {
    "echelon.numbers": (
        "common(a, b)", "combine(pairs)", "reconstruct(r, m, bound)", "is_prime(n)",
        "next_prime(n)", "fraction(n, d)", "root(n)", "symmetric(r, m)",
    ),
    "echelon.domains": (
        "is_domain(d)", "is_element(d, x)", "zero(d)", "one(d)", "add(d, x, y)",
        "subtract(d, x, y)", "negate(d, x)", "multiply(d, x, y)", "from_integer(d, n)",
        "power(d, x, k)", "inverse(f, x)", "quotient(f, x, y)", "divide(d, x, y)",
        "normal(d, x)", "greatest(d, x, y)",
    ),
    "echelon.polynomials": (
        "degree(a)", "make(f, coefficients)", "evaluate(f, a, x)", "derivative(f, a)",
        "compose(f, a, b)", "power_modulo(f, a, k, b)", "square_free(f, a)",
    ),
    "echelon.factoring": ("factor(f, a)", "is_irreducible(f, a)", "roots(f, a)"),
    "echelon.matrices": (
        "is_matrix(d, a)", "matrix(d, rows, n)", "identity(d, n)", "zero_matrix(d, m, n)",
        "plus(d, a, b)", "minus(d, a, b)", "times(d, a, b)", "scaled(d, x, a)", "transposed(a)",
        "applied(d, a, v)", "row_times(d, v, a)", "matrix_power(d, a, k)", "beside(a, b)",
        "below(a, b)", "part(a, rows, columns)", "diagonal(d, blocks)", "trace(d, a)",
        "change(d, e, a)", "evaluated(f, g, a)",
    ),
    "echelon.elimination": (
        "reduce(f, a)", "rank(f, a)", "kernel(f, a)", "solve(f, a, b)", "refute(f, a, b)",
        "inverted(f, a)", "split(f, a)", "sign(order)", "determinant(f, a)", "column_basis(f, a)",
        "factors(f, a)",
    ),
    "echelon.euclid": (
        "hermite(d, a)", "smith(d, a)", "invariants(d, a)", "determinant_of(d, a)",
        "integer_kernel(a)", "integer_solve(a, b)", "integer_refute(a, b)", "same_lattice(a, b)",
    ),
    "echelon.operators": (
        "characteristic(f, a)", "annihilator(f, a, v)", "krylov(f, a, v)", "minimal(f, a)",
        "cyclic_vector(f, a)", "companion(f, g)",
    ),
    "echelon.frobenius": (
        "invariant_factors(f, a)", "frobenius(f, a)", "similarity(f, a, b)", "difference(f, a, b)",
    ),
    "echelon.jordan": (
        "eigenvalues(f, a)", "jordan_block(f, x, k)", "jordan(f, a)", "unsplit(f, a)",
        "is_diagonal(f, a)",
    ),
    "echelon.lattices": (
        "basis_of(a)", "orthogonal(b)", "is_reduced(b)", "reduce_basis(b)", "coordinates(b, v)",
        "outside(b, v)", "sum_of(a, b)", "intersection(a, b)", "dual(b)", "volume(b)",
        "index_in(a, b)",
    ),
    "echelon.shortest": ("minimal_vectors(b)", "shortest(b)", "closest(b, v)"),
    "echelon.judge": ("judge(claim)",),
    "echelon.answers": ("answer(question)",),
    "echelon.roads": (
        "determinant_bound(a)", "coefficient_bound(a)", "primes_for(m)", "determinant_by_primes(a)",
        "characteristic_by_primes(a)", "rank_by_primes(a)", "lift(a, b, p, k)",
        "solve_by_lifting(a, b)", "hermite_by_modulus(a)",
    ),
    "echelon.texts": (
        "write_domain(d)", "write_element(d, x)", "write_vector(d, v)", "write_matrix(d, a)",
        "read_domain(text)", "read_element(d, text)", "read_vector(d, text)", "read_matrix(d, text)",
        "write_claim(claim)", "read_claim(text)",
    ),
    "echelon.desk": ("desk(text)",),
}

CLASSES = {
    "echelon.errors": ("EchelonError", "DomainError", "ShapeError", "SingularError", "TextError"),
}


class InterfaceTest(unittest.TestCase):
    def test_functions(self):
        for name, heads in FUNCTIONS.items():
            module = importlib.import_module(name)
            for head in heads:
                function = getattr(module, head.split("(")[0])
                self.assertTrue(inspect.isfunction(function), head)
                self.assertEqual(function.__name__ + str(inspect.signature(function)), head)
                self.assertEqual(function.__module__, name)

    def test_classes(self):
        for name, words in CLASSES.items():
            module = importlib.import_module(name)
            for word in words:
                kind = getattr(module, word)
                self.assertTrue(inspect.isclass(kind), word)
                self.assertEqual(kind.__module__, name)


if __name__ == "__main__":
    unittest.main()
