"""The errors that the program raises."""


class EchelonError(ValueError):
    """The base class of all errors of the program."""


class DomainError(EchelonError):
    """A value is no domain, or none of the kind that is needed."""


class ShapeError(EchelonError):
    """Sizes do not fit each other or the function."""


class SingularError(EchelonError):
    """An inverse is needed that does not exist."""


class TextError(EchelonError):
    """A text is not of the form that is read; its field line is counted from 1."""

    def __init__(self, line):
        self.line = line
