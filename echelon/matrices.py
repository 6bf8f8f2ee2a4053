"""Matrices over a domain (points 4 and 35 to 39)."""

from echelon.domains import (
    add, from_integer, is_element, is_whole, multiply, need_domain, need_field, one, polynomial,
    quotient, subtract, zero,
)
from echelon.errors import DomainError, ShapeError
from echelon.rows import cleared_row, dot, restored_entry

# The changes of domain other than that from a field to its polynomials.
CHANGES = (("Z", "Q"), ("Z", "F"), ("Q", "Z"), ("Q", "F"))


def is_matrix(d, a):
    """Return whether any value is a matrix over a domain."""
    need_domain(d)
    if not isinstance(a, tuple) or len(a) != 3:
        return False
    m, n, rows = a
    if not is_whole(m) or not is_whole(n) or n < 0 or not isinstance(rows, tuple):
        return False
    if len(rows) != m:
        return False
    for row in rows:
        if not isinstance(row, tuple) or len(row) != n:
            return False
        for x in row:
            if not is_element(d, x):
                return False
    return True


def matrix(d, rows, n):
    """Return the matrix with n columns of a list of lists of elements."""
    need_domain(d)
    for row in rows:
        need_length(row, n)
    return len(rows), n, tuple([tuple(row) for row in rows])


def identity(d, n):
    """Return the matrix with n rows that has ones on the diagonal and zeros elsewhere."""
    need_domain(d)
    unit, none = one(d), zero(d)
    return n, n, tuple([tuple([unit if i == j else none for j in range(n)]) for i in range(n)])


def zero_matrix(d, m, n):
    """Return the matrix of zeros."""
    need_domain(d)
    return m, n, ((zero(d),) * n,) * m


def need_square(a):
    """Raise ShapeError if a matrix is not square."""
    if a[0] != a[1]:
        raise ShapeError("the matrix is not square")


def need_same_shape(a, b):
    """Raise ShapeError if two matrices have unlike sizes."""
    if a[0] != b[0] or a[1] != b[1]:
        raise ShapeError("the matrices have unlike sizes")


def need_length(v, n):
    """Raise ShapeError if a vector does not have n elements."""
    if len(v) != n:
        raise ShapeError("the vector does not fit")


def plus(d, a, b):
    """Return the sum of two matrices."""
    need_domain(d)
    need_same_shape(a, b)
    rows = [tuple([add(d, x, y) for x, y in zip(u, v)]) for u, v in zip(a[2], b[2])]
    return a[0], a[1], tuple(rows)


def minus(d, a, b):
    """Return the first matrix less the second one."""
    need_domain(d)
    need_same_shape(a, b)
    rows = [tuple([subtract(d, x, y) for x, y in zip(u, v)]) for u, v in zip(a[2], b[2])]
    return a[0], a[1], tuple(rows)


def times(d, a, b):
    """Return the product of two matrices."""
    need_domain(d)
    if a[1] != b[0]:
        raise ShapeError("the matrices do not fit")
    columns = [cleared_row(d, v) for v in transposed(b)[2]]
    out = []
    for u in a[2]:
        row, m = cleared_row(d, u)
        out.append(tuple([restored_entry(d, dot(d, row, column), m * n) for column, n in columns]))
    return a[0], b[1], tuple(out)


def scaled(d, x, a):
    """Return the matrix with each entry multiplied by x."""
    need_domain(d)
    return a[0], a[1], tuple([tuple([multiply(d, x, y) for y in row]) for row in a[2]])


def transposed(a):
    """Return the matrix with rows and columns exchanged."""
    m, n, rows = a
    return n, m, tuple([tuple([row[j] for row in rows]) for j in range(n)])


def applied(d, a, v):
    """Return the product of a matrix and a vector, which stands as a column on the right."""
    need_domain(d)
    need_length(v, a[1])
    column, n = cleared_row(d, v)
    out = []
    for u in a[2]:
        row, m = cleared_row(d, u)
        out.append(restored_entry(d, dot(d, row, column), m * n))
    return tuple(out)


def row_times(d, v, a):
    """Return the product of a vector and a matrix: the vector stands as a row on the left."""
    need_domain(d)
    need_length(v, a[0])
    return applied(d, transposed(a), v)


def matrix_power(d, a, k):
    """Return the k-th power of a square matrix, the identity for k = 0."""
    need_domain(d)
    need_square(a)
    out = identity(d, a[0])
    for at in range(k.bit_length() - 1, -1, -1):
        out = times(d, out, out)
        if (k >> at) & 1:
            out = times(d, out, a)
    return out


def beside(a, b):
    """Return the matrix with the columns of b behind those of a."""
    if a[0] != b[0]:
        raise ShapeError("the matrices have unlike numbers of rows")
    return a[0], a[1] + b[1], tuple([u + v for u, v in zip(a[2], b[2])])


def below(a, b):
    """Return the matrix with the rows of b behind those of a."""
    if a[1] != b[1]:
        raise ShapeError("the matrices have unlike numbers of columns")
    return a[0] + b[0], a[1], a[2] + b[2]


def part(a, rows, columns):
    """Return the matrix of the entries in these rows and columns, in their order."""
    for i in rows:
        if i < 0 or i >= a[0]:
            raise ShapeError("there is no such row")
    for j in columns:
        if j < 0 or j >= a[1]:
            raise ShapeError("there is no such column")
    return len(rows), len(columns), tuple([tuple([a[2][i][j] for j in columns]) for i in rows])


def diagonal(d, blocks):
    """Return the matrix with the blocks along the diagonal and zeros elsewhere."""
    need_domain(d)
    n = sum([block[1] for block in blocks])
    none = (zero(d),)
    out = []
    before = 0
    for _, many, rows in blocks:
        for row in rows:
            out.append(none * before + row + none * (n - before - many))
        before += many
    return len(out), n, tuple(out)


def trace(d, a):
    """Return the sum of the diagonal of a square matrix."""
    need_domain(d)
    need_square(a)
    total = zero(d)
    for k in range(a[0]):
        total = add(d, total, a[2][k][k])
    return total


def change(d, e, a):
    """Return the matrix over the domain e with the entries of a matrix over d."""
    need_domain(d)
    need_domain(e)
    if d == e:
        return a
    if e != ("P", d) and (d[0], e[0]) not in CHANGES:
        raise DomainError("there is no such change")
    return a[0], a[1], tuple([tuple([changed(d, e, x) for x in row]) for row in a[2]])


def changed(d, e, x):
    """Return the element of another domain that an element stands for."""
    if d[0] == "Z":
        return from_integer(e, x)
    if e[0] == "P":
        return polynomial(d, (x,))
    n, m = x
    if e[0] == "Z" and m == 1:
        return n
    if e[0] == "F" and m % e[1]:
        return quotient(e, from_integer(e, n), from_integer(e, m))
    raise DomainError("the denominator has no inverse")


def evaluated(f, g, a):
    """Return the value of a polynomial at a square matrix."""
    need_field(f)
    need_square(a)
    out = zero_matrix(f, a[0], a[0])
    for c in reversed(g):
        out = plus(f, times(f, out, a), scaled(f, c, identity(f, a[0])))
    return out
