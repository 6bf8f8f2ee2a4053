"""Answers to questions: claims that the judge accepts (points 148 and 149)."""

from echelon.domains import divide, greatest, is_field, need_field, one, zero
from echelon.elimination import determinant, inverted, kernel, reduce, refute, solve, split
from echelon.errors import DomainError
from echelon.euclid import determinant_of, hermite, integer_refute, integer_solve, smith
from echelon.factoring import factor
from echelon.frobenius import cyclic_form, need_equal_sizes, similarity_of
from echelon.jordan import jordan
from echelon.lattices import coordinates, need_same_columns, reduce_basis
from echelon.matrices import change, identity, need_square, part, times, transposed
from echelon.operators import characteristic
from echelon.shortest import shortest

WHOLE = ("Z",)
RATIONAL = ("Q",)


def rows_of(a, numbers):
    """Return the matrix of the rows with these numbers."""
    return part(a, numbers, list(range(a[1])))


def columns_of(a, numbers):
    """Return the matrix of the columns with these numbers."""
    return part(a, list(range(a[0])), numbers)


def answer_rank(question):
    """("rank", f, a)"""
    _, f, a = question
    r, t, _, pivots = reduce(f, a)
    many = len(pivots)
    first = list(range(many))
    p, y = rows_of(t, first), columns_of(identity(f, a[1]), list(pivots))
    return "rank", f, a, many, p, y, columns_of(a, list(pivots)), rows_of(r, first)


def answer_echelon(question):
    """("echelon", f, a)"""
    _, f, a = question
    r, t, s, _ = reduce(f, a)
    return "echelon", f, a, r, t, s


def answer_kernel(question):
    """("kernel", f, a)"""
    _, f, a = question
    _, t, _, pivots = reduce(f, a)
    unit = identity(f, a[1])
    free = [j for j in range(a[1]) if j not in pivots]
    p, y = rows_of(t, list(range(len(pivots)))), columns_of(unit, list(pivots))
    return "kernel", f, a, kernel(f, a), rows_of(unit, free), p, y


def answer_solve(question):
    """("solve", f, a, b)"""
    _, f, a, b = question
    x = solve(f, a, b)
    if x is None:
        return "no solution", f, a, b, refute(f, a, b)
    return "solution", f, a, b, x


def answer_invert(question):
    """("invert", f, a)"""
    _, f, a = question
    need_field(f)
    need_square(a)
    k = kernel(f, a)
    if k[1]:
        return "singular", f, a, tuple([row[0] for row in k[2]])
    return "inverse", f, a, inverted(f, a)


def answer_similar(question):
    """("similar", f, a, b)"""
    _, f, a, b = question
    need_equal_sizes(f, a, b)
    first, second = cyclic_form(f, a), cyclic_form(f, b)
    pair = similarity_of(f, first, second)
    if pair is None:
        return "not similar", f, a, b, frobenius_claim(f, a, first), frobenius_claim(f, b, second)
    t, s = pair
    return "similar", f, a, b, t, s


def frobenius_claim(f, a, form):
    """Return the claim about the Frobenius form that is given as a triple."""
    polynomials, t, s = form
    return "frobenius", f, a, polynomials, t, s


def answer_determinant(question):
    """("determinant", d, a)"""
    _, d, a = question
    if d == WHOLE:
        x = determinant_of(d, a)
        order, l, u = split(RATIONAL, change(d, RATIONAL, a))
    elif is_field(d):
        x = determinant(d, a)
        order, l, u = split(d, a)
    else:
        raise DomainError("neither a field nor the integers")
    return "determinant", d, a, x, order, l, u


def answer_greatest(question):
    """("greatest", e, x, y)"""
    _, e, x, y = question
    g, s, t = greatest(e, x, y)
    if g == zero(e):
        return "greatest", e, x, y, g, s, t, g, g
    return "greatest", e, x, y, g, s, t, divide(e, x, g)[0], divide(e, y, g)[0]


def answer_hermite(question):
    """("hermite", e, a)"""
    _, e, a = question
    h, u, v = hermite(e, a)
    return "hermite", e, a, h, u, v


def answer_smith(question):
    """("smith", e, a)"""
    _, e, a = question
    s, u, v, x, y = smith(e, a)
    return "smith", e, a, s, u, v, x, y


def answer_factor(question):
    """("factor", f, g)"""
    _, f, g = question
    return "factors", f, g, tuple(factor(f, g))


def answer_integer_solve(question):
    """("integer solve", a, b)"""
    _, a, b = question
    x = integer_solve(a, b)
    if x is None:
        return "no integer solution", a, b, integer_refute(a, b)
    return "integer solution", a, b, x


def answer_integer_kernel(question):
    """("integer kernel", a)"""
    _, a = question
    h, u, v = hermite(WHOLE, transposed(a))
    free = [k for k, row in enumerate(h[2]) if not any(row)]
    k, w = transposed(rows_of(u, free)), transposed(columns_of(v, free))
    _, _, _, _, p, y, _, _ = answer_rank(("rank", RATIONAL, change(WHOLE, RATIONAL, a)))
    return "integer kernel", a, k, w, p, y


def answer_member(question):
    """("member", a, w)"""
    _, a, w = question
    turned = transposed(a)
    c = integer_solve(turned, w)
    if c is None:
        return "not member", a, w, integer_refute(turned, w)
    return "member", a, w, c


def answer_lattice(question):
    """("lattice", a, b)"""
    _, a, b = question
    need_same_columns(a, b)
    for side, rows, other in ((0, a, b), (1, b, a)):
        turned = transposed(other)
        for i, w in enumerate(rows[2]):
            y = integer_refute(turned, w)
            if y is not None:
                return "other lattice", a, b, side, i, y
    h, p, q = hermite(WHOLE, a)
    _, s, t = hermite(WHOLE, b)
    # Both forms have the same rows that are not zero: p a, and s b, and t of those is b.
    held = [k for k, row in enumerate(h[2]) if any(row)]
    u = times(WHOLE, columns_of(t, held), rows_of(p, held))
    v = times(WHOLE, columns_of(q, held), rows_of(s, held))
    return "same lattice", a, b, u, v


def answer_reduce(question):
    """("reduce", a)"""
    _, a = question
    r, u, v = reduce_basis(a)
    return "reduced", a, r, u, v


def answer_shortest(question):
    """("shortest", a)"""
    _, a = question
    w, _ = shortest(a)
    r, u, v = reduce_basis(a)
    return "shortest", a, w, r, u, v, coordinates(r, w)


def answer_frobenius(question):
    """("frobenius", f, a)"""
    _, f, a = question
    return frobenius_claim(f, a, cyclic_form(f, a))


def answer_characteristic(question):
    """("characteristic", f, a)"""
    _, f, a = question
    g = characteristic(f, a)
    polynomials, t, s = cyclic_form(f, a)
    return "characteristic", f, a, g, polynomials, t, s


def answer_minimal(question):
    """("minimal", f, a)"""
    _, f, a = question
    polynomials, t, s = cyclic_form(f, a)
    g = polynomials[-1] if polynomials else one(("P", f))
    return "minimal", f, a, g, polynomials, t, s


def answer_jordan(question):
    """("jordan", f, a)"""
    _, f, a = question
    form = jordan(f, a)
    if form is None:
        polynomials, t, s = cyclic_form(f, a)
        return "no jordan", f, a, polynomials, t, s
    blocks, _, t, s = form
    return "jordan", f, a, blocks, t, s


QUESTIONS = {
    "rank": answer_rank,
    "echelon": answer_echelon,
    "kernel": answer_kernel,
    "solve": answer_solve,
    "invert": answer_invert,
    "similar": answer_similar,
    "determinant": answer_determinant,
    "greatest": answer_greatest,
    "hermite": answer_hermite,
    "smith": answer_smith,
    "factor": answer_factor,
    "integer solve": answer_integer_solve,
    "integer kernel": answer_integer_kernel,
    "member": answer_member,
    "lattice": answer_lattice,
    "reduce": answer_reduce,
    "shortest": answer_shortest,
    "frobenius": answer_frobenius,
    "characteristic": answer_characteristic,
    "minimal": answer_minimal,
    "jordan": answer_jordan,
}


def answer(question):
    """Return a claim about the question that the judge accepts."""
    find = QUESTIONS[question[0]]
    return find(question)
