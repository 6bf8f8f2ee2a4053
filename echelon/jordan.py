"""The Jordan form (points 108 to 111)."""

from echelon.domains import add, divide, multiply, need_field, negate, one, zero
from echelon.elimination import inverted
from echelon.factoring import roots
from echelon.frobenius import cyclic_parts
from echelon.matrices import applied, diagonal, transposed
from echelon.operators import characteristic, minimal, value_at


def eigenvalues(f, a):
    """Return the pairs (x, k) of the eigenvalues in the field, ascending, and multiplicities."""
    return roots(f, characteristic(f, a))


def jordan_block(f, x, k):
    """Return the matrix with x on the diagonal, ones directly above it, and zeros elsewhere."""
    need_field(f)
    rows = []
    for i in range(k):
        row = [zero(f)] * k
        row[i] = x
        if i + 1 < k:
            row[i + 1] = one(f)
        rows.append(tuple(row))
    return k, k, tuple(rows)


def is_split_by(g, pairs):
    """Return whether the multiplicities of the roots (x, k) make up the degree of g."""
    return sum([k for _, k in pairs]) == len(g) - 1


def without_root(f, g, x):
    """Return (h, k): g is h times the k-th power of the variable less x, and x no root of h."""
    d = ("P", f)
    factor = (negate(f, x), one(f))
    k = 0
    q, rest = divide(d, g, factor)
    while not rest:
        g = q
        k += 1
        q, rest = divide(d, g, factor)
    return g, k


def jordan(f, a):
    """Return (blocks, j, t, s) with a t = t j and t s the identity, or None if there is no j."""
    g = characteristic(f, a)
    pairs = roots(f, g)
    if not is_split_by(g, pairs):
        return None
    parts = cyclic_parts(f, a)
    blocks, columns = [], []
    for x, _ in pairs:
        # Each factor divides the one before it, so its blocks are not larger.
        for factor, k in parts:
            rest, many = without_root(f, factor, x)
            if many:
                v = tuple([row[0] for row in k[2]])
                blocks.append((x, many))
                columns.extend(chain(f, a, value_at(f, a, rest, v), x, many))
    j = diagonal(f, [jordan_block(f, x, k) for x, k in blocks])
    turned = len(columns), a[0], tuple(columns)
    # The denominators of a column of t are alike, and those of a row are not.
    return tuple(blocks), j, transposed(turned), transposed(inverted(f, turned))


def chain(f, a, v, x, many):
    """Return the columns of a block: v is the last one, and a less x takes each to the one before."""
    out = [v]
    for _ in range(many - 1):
        last = out[-1]
        out.append(tuple([
            add(f, y, negate(f, multiply(f, x, z))) for y, z in zip(applied(f, a, last), last)
        ]))
    return out[::-1]


def unsplit(f, a):
    """Return what remains of the characteristic polynomial without its roots, or None if it splits."""
    g = characteristic(f, a)
    for x, _ in roots(f, g):
        g = without_root(f, g, x)[0]
    return g if len(g) > 1 else None


def is_diagonal(f, a):
    """Return whether the matrix is similar to a diagonal one."""
    g = characteristic(f, a)
    if not is_split_by(g, roots(f, g)):
        return False
    g = minimal(f, a)
    return len(roots(f, g)) == len(g) - 1
