"""Other roads to the same answers: by primes and remainders, and by lifting (points 80 to 88)."""

from echelon.elimination import determinant, inverted, rank
from echelon.errors import SingularError
from echelon.euclid import determinant_of
from echelon.hermites import cleaning, mixed, tidy
from echelon.matrices import change, need_length, need_square
from echelon.numbers import combine, next_prime, reconstruct, root, symmetric
from echelon.operators import characteristic
from echelon.reduction import product_of_rows

WHOLE = ("Z",)
FIRST = 32768


def product_of_roots(rows, more):
    """Return the product of the roots of the squares of rows, each with more added to it."""
    out = 1
    for row in rows:
        out *= root(product_of_rows(row, row)) + more
    return out


def determinant_bound(a):
    """Return a number that the absolute value of the determinant is not above."""
    need_square(a)
    return product_of_roots(a[2], 1)


def coefficient_bound(a):
    """Return a number that no coefficient of the characteristic polynomial is above."""
    need_square(a)
    return product_of_roots(a[2], 2)


def primes_for(m):
    """Return the least primes above 32768, as many as have a product above m."""
    out = []
    total = 1
    last = FIRST
    while total <= m:
        last = next_prime(last)
        out.append(last)
        total *= last
    return out


def modulo(a, p):
    """Return the matrix over the prime field with p elements of one over the integers."""
    return change(WHOLE, ("F", p), a)


def joined(pairs):
    """Return the integer nearest to zero with the remainders of pairs (r, p)."""
    r, m = combine(pairs)
    return symmetric(r, m)


def determinant_by_primes(a):
    """Return (d, images): the determinant, and the pairs (p, r) of its remainders."""
    images = []
    for p in primes_for(2 * determinant_bound(a)):
        images.append((p, determinant(("F", p), modulo(a, p))))
    return joined([(r, p) for p, r in images]), tuple(images)


def characteristic_by_primes(a):
    """Return the tuple of the coefficients of the characteristic polynomial."""
    primes = primes_for(2 * coefficient_bound(a))
    images = [characteristic(("F", p), modulo(a, p)) for p in primes]
    return tuple([joined(list(zip(line, primes))) for line in zip(*images)])


def rank_by_primes(a):
    """Return (r, p): the rank over the fractions and the least prime over which it is the same."""
    best = (-1, 0)
    # A minor other than zero is not above the bound, so one of these primes does not divide it.
    for p in primes_for(product_of_roots(a[2], 1)):
        many = rank(("F", p), modulo(a, p))
        if many > best[0]:
            best = (many, p)
        if many == min(a[0], a[1]):
            break
    return best


def lift(a, b, p, k):
    """Return the vector x from 0 to p ** k - 1 for which p ** k divides a x - b."""
    need_square(a)
    need_length(b, a[0])
    turned = inverted(("F", p), modulo(a, p))[2]
    rest = list(b)
    digits = []
    for _ in range(k):
        x = [product_of_rows(row, rest) % p for row in turned]
        digits.append(x)
        # What is left of b after this digit is divisible by p.
        rest = [(c - product_of_rows(row, x)) // p for row, c in zip(a[2], rest)]
    out = [0] * a[0]
    for x in reversed(digits):
        out = [c * p + digit for c, digit in zip(out, x)]
    return tuple(out)


def solve_by_lifting(a, b):
    """Return (x, p, k): the solution x of a x = b, found modulo the k-th power of p."""
    need_square(a)
    need_length(b, a[0])
    size = need_determinant(a)
    p = next_prime(FIRST)
    while size % p == 0:
        p = next_prime(p)
    bound = product_of_roots([row + (c,) for row, c in zip(a[2], b)], 1)
    k = 1
    m = p
    while m <= 2 * bound * bound:
        k += 1
        m *= p
    return tuple([reconstruct(r, m, bound) for r in lift(a, b, p, k)]), p, k


def need_determinant(a):
    """Return the absolute value of the determinant; raise SingularError if it is zero."""
    size = abs(determinant_of(WHOLE, a))
    if size == 0:
        raise SingularError("the determinant is zero")
    return size


def hermite_by_modulus(a):
    """Return the Hermite form of a square matrix whose determinant is not zero."""
    need_square(a)
    size = need_determinant(a)
    n = a[0]
    # The lattice contains each vector whose entries are all divisible by the determinant.
    table = [[size if i == j else 0 for j in range(n)] for i in range(n)]
    for row in a[2]:
        put_row_modulo(table, [x % size for x in row], size)
    tidy(WHOLE, table)
    return n, n, tuple([tuple(row) for row in table])


def put_row_modulo(table, row, size):
    """Put a row into a table in which all entries but the pivots are remainders modulo size."""
    for j in range(len(table)):
        if row[j]:
            held = table[j]
            s, t, q, r = cleaning(WHOLE, held[j], row[j])
            kept = mixed(WHOLE, s, held, t, row)
            row = [x % size for x in mixed(WHOLE, q, held, r, row)]
            # The pivot may be size itself, which has no remainder.
            table[j] = kept[:j + 1] + [x % size for x in kept[j + 1:]]
