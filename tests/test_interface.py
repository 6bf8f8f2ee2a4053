"""The interface: names, arguments, and the file in which each name is defined."""

import importlib
import inspect
import unittest

FUNCTIONS = {
    "echelon.numbers": (
        "common(a, b)", "combine(pairs)", "reconstruct(r, m, bound)", "is_prime(n)",
        "next_prime(n)", "fraction(n, d)", "root(n)", "symmetric(r, m)",
    ),
    "echelon.domains": (
        "is_domain(d)", "is_element(d, x)", "zero(d)", "one(d)", "add(d, x, y)",
        "subtract(d, x, y)", "negate(d, x)", "multiply(d, x, y)", "from_integer(d, n)",
        "power(d, x, k)", "inverse(f, x)", "quotient(f, x, y)", "divide(d, x, y)",
        "normal(d, x)", "greatest(d, x, y)",
    ),
}

CLASSES = {
    "echelon.errors": ("EchelonError", "DomainError", "ShapeError", "SingularError", "TextError"),
}


class InterfaceTest(unittest.TestCase):
    def test_functions(self):
        for name, heads in FUNCTIONS.items():
            module = importlib.import_module(name)
            for head in heads:
                function = getattr(module, head.split("(")[0])
                self.assertTrue(inspect.isfunction(function), head)
                self.assertEqual(function.__name__ + str(inspect.signature(function)), head)
                self.assertEqual(function.__module__, name)

    def test_classes(self):
        for name, words in CLASSES.items():
            module = importlib.import_module(name)
            for word in words:
                kind = getattr(module, word)
                self.assertTrue(inspect.isclass(kind), word)
                self.assertEqual(kind.__module__, name)


if __name__ == "__main__":
    unittest.main()
