"""The Frobenius form and similarity (points 104 to 107)."""

from echelon.domains import divide, need_field, one, zero
from echelon.elimination import inverted, kernel, reduce, solve
from echelon.errors import ShapeError
from echelon.matrices import (
    beside, diagonal, identity, need_square, part, times, transposed, zero_matrix,
)
from echelon.operators import companion, generator, krylov


def cyclic_parts(f, a):
    """Return the pairs (g, k): an invariant factor, and a krylov matrix whose annihilator it is.

    The first factor is the last one of point 104. The columns of all matrices are a basis.
    """
    out = []
    base = identity(f, a[0])
    while a[0]:
        v, g = generator(f, a)
        k = krylov(f, a, v)
        out.append((g, times(f, base, k)))
        if k[1] == a[0]:
            break
        a, complement = rest_of(f, a, k)
        base = times(f, base, complement)
    return out


def rest_of(f, a, k):
    """Return (b, w): a takes the columns of w, which complete those of k, to w b.

    The annihilator of the first column of k takes a to zero. Therefore a takes vectors to such
    on which the row y and its products with powers of a are zero, if they are so themselves.
    """
    many = k[1]
    y = solve(f, transposed(k), (zero(f),) * (many - 1) + (one(f),))
    rows = krylov(f, transposed(a), y)
    conditions = part(transposed(rows), list(range(many)), list(range(a[0])))
    w = kernel(f, conditions)
    pivots = reduce(f, conditions)[3]
    free = [j for j in range(a[0]) if j not in pivots]
    return part(times(f, a, w), free, list(range(w[1]))), w


def invariant_factors(f, a):
    """Return the tuple of the invariant factors, each of which divides the next one."""
    need_field(f)
    need_square(a)
    return tuple([g for g, _ in reversed(cyclic_parts(f, a))])


def frobenius(f, a):
    """Return (c, t, s): the companion matrices along the diagonal, a t = t c, t s the identity."""
    polynomials, t, s = cyclic_form(f, a)
    return diagonal(f, [companion(f, g) for g in polynomials]), t, s


def cyclic_form(f, a):
    """Return (polynomials, t, s): the invariant factors and the matrices of the Frobenius form."""
    need_field(f)
    need_square(a)
    parts = cyclic_parts(f, a)[::-1]
    t = zero_matrix(f, a[0], 0)
    for _, k in parts:
        t = beside(t, k)
    # The denominators of a column of t are alike, and those of a row are not.
    s = transposed(inverted(f, transposed(t)))
    return tuple([g for g, _ in parts]), t, s


def need_equal_sizes(f, a, b):
    """Raise an error if there is no field or the matrices are not square and of equal size."""
    need_field(f)
    need_square(a)
    need_square(b)
    if a[0] != b[0]:
        raise ShapeError("the matrices have unlike sizes")


def similarity(f, a, b):
    """Return (t, s) with a t = t b and t s the identity, or None if there is no such pair."""
    need_equal_sizes(f, a, b)
    return similarity_of(f, cyclic_form(f, a), cyclic_form(f, b))


def similarity_of(f, first, second):
    """Return the pair (t, s) for two matrices by their cyclic forms, or None if there is none."""
    polynomials, t, s = first
    others, p, q = second
    if polynomials != others:
        return None
    return times(f, t, q), times(f, p, s)


def difference(f, a, b):
    """Return a polynomial whose values at a and b have different ranks, or None if there is none.

    At the first place from the end at which the invariant factors differ, g of a is zero on as
    much of b as on that of a only if g of b divides it.
    """
    need_equal_sizes(f, a, b)
    first, second = invariant_factors(f, a), invariant_factors(f, b)
    for g, h in zip(first[::-1], second[::-1]):
        if g != h:
            return g if divide(("P", f), g, h)[1] else h
    return None
