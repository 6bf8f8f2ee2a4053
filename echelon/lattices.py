"""Lattices of the rows of matrices over the integers (points 120 to 128)."""

from echelon.elimination import determinant, inverted
from echelon.errors import ShapeError, SingularError
from echelon.euclid import integer_refute, integer_solve
from echelon.hermites import hermite_table
from echelon.matrices import change, need_length, times, transposed
from echelon.numbers import fraction
from echelon.reduction import Basis, gram_schmidt, is_short

WHOLE = ("Z",)
RATIONAL = ("Q",)


def basis_of(a):
    """Return the rows of the Hermite form that are not zero: a basis of the lattice."""
    return whole_matrix([row for row in hermite_table(WHOLE, a[2], a[1]) if row], a[1])


def whole_matrix(rows, n):
    """Return the matrix with n columns of lists of integers."""
    return len(rows), n, tuple([tuple(row) for row in rows])


def need_basis(b):
    """Return the numbers d and shadows of a basis; raise SingularError if it is none."""
    numbers = gram_schmidt(b[2])
    if numbers is None:
        raise SingularError("the rows are dependent")
    return numbers


def need_same_columns(a, b):
    """Raise ShapeError if two matrices have different numbers of columns."""
    if a[1] != b[1]:
        raise ShapeError("the matrices have unlike numbers of columns")


def orthogonal(b):
    """Return (mu, squares): what makes the rows of vectors with products of zero, and their squares."""
    d, shadows = need_basis(b)
    m = b[0]
    rows = []
    for i, line in enumerate(shadows):
        row = [fraction(line[k], d[k + 1]) for k in range(i + 1)]
        rows.append(tuple(row + [(0, 1)] * (m - 1 - i)))
    return (m, m, tuple(rows)), tuple([fraction(d[i + 1], d[i]) for i in range(m)])


def is_reduced(b):
    """Return whether a basis is reduced."""
    d, shadows = need_basis(b)
    return is_short(d, shadows)


def reduce_basis(b):
    """Return (c, u, v): a reduced basis c = u b, and u v the identity."""
    d, shadows = need_basis(b)
    basis = Basis(b[2], d, shadows)
    basis.reduce_rows()
    m = b[0]
    back = transposed(whole_matrix(basis.back, m))
    return whole_matrix(basis.rows, b[1]), whole_matrix(basis.moves, m), back


def coordinates(b, v):
    """Return the vector x of integers with x b = v, or None if v is not in the lattice."""
    need_length(v, b[1])
    need_basis(b)
    return integer_solve(transposed(b), v)


def outside(b, v):
    """Return y with b y of integers whose product with v is none, or None if v is in the lattice."""
    need_length(v, b[1])
    need_basis(b)
    return integer_refute(transposed(b), v)


def sum_of(a, b):
    """Return the basis in Hermite form of the lattice that both lattices together span."""
    need_same_columns(a, b)
    return basis_of((a[0] + b[0], a[1], a[2] + b[2]))


def intersection(a, b):
    """Return the basis in Hermite form of the vectors that are in both lattices."""
    need_same_columns(a, b)
    n = a[1]
    # Where the first half of a combination of these rows is zero, the second half is one of
    # the rows of a and at the same time one of those of b.
    rows = [row + row for row in basis_of(a)[2]] + [row + (0,) * n for row in basis_of(b)[2]]
    table = hermite_table(WHOLE, rows, 2 * n)
    return whole_matrix([row[n:] for row in table[n:] if row], n)


def products(b):
    """Return the matrix of the products of the rows with one another."""
    return times(WHOLE, b, transposed(b))


def dual(b):
    """Return the matrix d of combinations of the rows for which d times the transposed b is one."""
    need_basis(b)
    turned = inverted(RATIONAL, change(WHOLE, RATIONAL, products(b)))
    return times(RATIONAL, turned, change(WHOLE, RATIONAL, b))


def volume(b):
    """Return the determinant of the products of the rows with one another."""
    return need_basis(b)[0][-1]


def index_in(a, b):
    """Return the number of classes of the lattice of a modulo that of b, or None if b is not within."""
    need_same_columns(a, b)
    need_basis(a)
    need_basis(b)
    if a[0] != b[0]:
        return None
    turned = transposed(a)
    rows = []
    for v in b[2]:
        x = integer_solve(turned, v)
        if x is None:
            return None
        rows.append(x)
    moves = change(WHOLE, RATIONAL, whole_matrix(rows, a[0]))
    return abs(determinant(RATIONAL, moves)[0])
