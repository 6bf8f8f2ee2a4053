"""A first look at products over the fractions, the inner side of echelon.conditions.

Fractions are taken modulo a prime, and polynomials at one place. What is unlike there is unlike
in truth. Only what is alike is multiplied out: in a claim that is wrong the numbers of that may
be far longer than those of the claim.
"""

from echelon.coefficients import divided_residues
from echelon.numbers import common

PRIME = 2305843009213693951
PLACE = 1234567890123456789
RATIONAL = ("Q",)
POLYNOMIALS = ("P", ("Q",))


def image_of_fraction(x):
    """Return the remainder of a fraction modulo the prime, or None if it has none."""
    below = x[1] % PRIME
    if below == 0:
        return None
    return x[0] % PRIME * common(below, PRIME)[1] % PRIME


def images_of(v):
    """Return the list of the remainders of fractions, or None if one has none."""
    out = [image_of_fraction(x) for x in v]
    return None if None in out else out


def image_of(d, x):
    """Return the remainder of a fraction, or of the value of a polynomial at the place, or None."""
    if d == RATIONAL:
        return image_of_fraction(x)
    numbers = images_of(x)
    if numbers is None:
        return None
    total = 0
    for c in reversed(numbers):
        total = (total * PLACE + c) % PRIME
    return total


def image_rows(d, a):
    """Return the rows of the images of a matrix, or None if an entry has none."""
    rows = [[image_of(d, x) for x in row] for row in a[2]]
    for row in rows:
        if None in row:
            return None
    return rows


def may_be_product(d, matrices, result):
    """Return False if the product of matrices is not the result, as a first look shows."""
    if d != RATIONAL and d != POLYNOMIALS:
        return True
    images = [image_rows(d, a) for a in matrices + (result,)]
    if None in images:
        return True
    rows = images[0]
    for at in range(1, len(matrices)):
        columns = [[row[j] for row in images[at]] for j in range(matrices[at][1])]
        rows = [[product_of_images(row, column) for column in columns] for row in rows]
    return rows == images[-1]


def product_of_images(u, v):
    """Return the product of two lists of remainders."""
    return sum([x * y for x, y in zip(u, v)]) % PRIME


def may_divide(e, x, y):
    """Return False if x does not divide y, as a first look shows; neither is zero."""
    if e != POLYNOMIALS:
        return True
    a, b = images_of(x), images_of(y)
    if a is None or b is None or a[-1] == 0:
        return True
    return divided_residues(b, a, PRIME)[1] == []
