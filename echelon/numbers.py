"""Integers, primes, remainders and fractions (points 10 to 14)."""

from math import gcd, isqrt


def common(a, b):
    """Return (g, s, t): the greatest common divisor g = s a + t b, with small s and t."""
    if a == 0 and b == 0:
        return 0, 0, 0
    old, new = (abs(a), 1, 0), (abs(b), 0, 1)
    while new[0]:
        q = old[0] // new[0]
        old, new = new, (old[0] - q * new[0], old[1] - q * new[1], old[2] - q * new[2])
    g, s, t = old
    if a < 0:
        s = -s
    if b < 0:
        t = -t
    return g, s, t


def combine(pairs):
    """Return (r, m): the numbers r + k m are those with all the remainders; or None."""
    r, m = 0, 1
    for other, n in pairs:
        g, s, _ = common(m, n)
        gap = other - r
        if gap % g:
            return None
        # s m is g modulo n, so this many steps of m close the gap.
        steps = s * (gap // g) % (n // g)
        r = r + m * steps
        m = m // g * n
    return r, m


def reconstruct(r, m, bound):
    """Return the fraction (n, d) that is r modulo m, both parts within the bound; or None.

    As 2 bound bound is below m, the fraction is found by Euclid's algorithm for m and r:
    n is its first remainder within the bound, and d the factor of r there.
    """
    old, new = (m, 0), (r % m, 1)
    while new[0] > bound:
        q = old[0] // new[0]
        old, new = new, (old[0] - q * new[0], old[1] - q * new[1])
    n, d = new
    if d < 0:
        n, d = -n, -d
    # A common divisor of n and d would divide m, so n / d is in lowest terms.
    if d > bound or gcd(d, m) > 1:
        return None
    return n, d


def is_prime(n):
    """Return whether an integer is a prime."""
    if n < 4:
        return n > 1
    if n % 2 == 0 or n % 3 == 0:
        return False
    # All further primes are next to a multiple of 6.
    for k in range(5, root(n) + 1, 6):
        if n % k == 0 or n % (k + 2) == 0:
            return False
    return True


def next_prime(n):
    """Return the least prime above n."""
    candidate = max(n + 1, 2)
    while not is_prime(candidate):
        candidate += 1
    return candidate


def fraction(n, d):
    """Return n / d in lowest terms, with a positive denominator."""
    g = gcd(n, d)
    if d < 0:
        g = -g
    return n // g, d // g


def root(n):
    """Return the greatest integer whose square is at most n."""
    return isqrt(n)


def symmetric(r, m):
    """Return the integer nearest to zero with the remainder of r; of two the positive one."""
    rest = r % m
    if 2 * rest > m:
        return rest - m
    return rest
