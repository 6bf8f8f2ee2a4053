"""What the desk takes: names, and matrices and vectors that are small enough (point 163)."""

LONGEST_NAME = 12


def is_name(text):
    """Return whether a text is a letter, followed by at most 11 letters and digits."""
    if len(text) > LONGEST_NAME or not text.isascii() or not text.isalnum():
        return False
    return text[0].isalpha()


def most_lines(d):
    """Return how many rows, columns or elements there may be."""
    return 3 if d[0] == "P" else 6


def is_small_number(d, x):
    """Return whether an element of a domain that has no polynomials has few digits."""
    if d[0] == "Q":
        return abs(x[0]) < 10 ** 3 and x[1] < 10 ** 3
    return abs(x) < 10 ** 9


def is_small_element(d, x):
    """Return whether an element has few digits, and a low degree if it is a polynomial."""
    if d[0] != "P":
        return is_small_number(d, x)
    if len(x) > 3:
        return False
    for c in x:
        if not is_small_number(d[1], c):
            return False
    return True


def is_small_vector(d, v):
    """Return whether a vector is within the limits."""
    if len(v) > most_lines(d):
        return False
    for x in v:
        if not is_small_element(d, x):
            return False
    return True


def is_small_matrix(d, a):
    """Return whether a matrix is within the limits."""
    m, n, rows = a
    if m > most_lines(d) or n > most_lines(d):
        return False
    for row in rows:
        if not is_small_vector(d, row):
            return False
    return True
