"""Point 6: the errors and their classes."""

import unittest

from echelon.errors import DomainError, EchelonError, ShapeError, SingularError, TextError

KINDS = (DomainError, ShapeError, SingularError, TextError)


class ErrorsTest(unittest.TestCase):
    def test_base_is_a_value_error(self):
        self.assertEqual(EchelonError.__bases__, (ValueError,))
        with self.assertRaises(ValueError):
            raise EchelonError("reason")

    def test_all_kinds_are_direct_subclasses(self):
        for kind in KINDS:
            self.assertEqual(kind.__bases__, (EchelonError,))

    def test_no_kind_is_caught_as_another(self):
        for kind in KINDS:
            for other in KINDS:
                self.assertEqual(issubclass(kind, other), kind is other)

    def test_kinds_are_raised_and_caught(self):
        for kind in (DomainError, ShapeError, SingularError):
            with self.assertRaises(kind):
                raise kind("reason")

    def test_text_error_has_a_line(self):
        for line in (1, 2, 1000):
            try:
                raise TextError(line)
            except EchelonError as error:
                self.assertEqual(error.line, line)
        self.assertEqual(TextError(line=7).line, 7)


if __name__ == "__main__":
    unittest.main()
