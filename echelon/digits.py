"""Integers as decimal digits of any number, the inner side of echelon.texts (point 160).

Python refuses to turn long integers into digits, and digits into long integers. They are
halved here until they are short.
"""

SHORT = 1000


def tens(many):
    """Return the power of ten with this exponent."""
    out = 1
    for at in range(many.bit_length() - 1, -1, -1):
        out *= out
        if (many >> at) & 1:
            out *= 10
    return out


def number_of(digits):
    """Return the integer with these decimal digits, of which there is at least one."""
    if len(digits) <= SHORT:
        return int(digits)
    first = (len(digits) - 1) % SHORT + 1
    pieces = [digits[:first]]
    pieces.extend([digits[at:at + SHORT] for at in range(first, len(digits), SHORT)])
    numbers = [int(piece) for piece in pieces]
    scale = tens(SHORT)
    while len(numbers) > 1:
        # Pairs are joined from the end; one that is left over stands in front.
        odd = len(numbers) % 2
        joined = [numbers[k] * scale + numbers[k + 1] for k in range(odd, len(numbers), 2)]
        numbers = numbers[:odd] + joined
        scale *= scale
    return numbers[0]


def digits_of(n):
    """Return the decimal digits of an integer that is not negative."""
    # An integer of 3 * SHORT bits has less than SHORT digits.
    if n.bit_length() <= 3 * SHORT:
        return str(n)
    powers = [tens(SHORT)]
    while powers[-1] <= n:
        powers.append(powers[-1] * powers[-1])
    numbers = [n]
    for scale in reversed(powers):
        halves = []
        for k in numbers:
            halves.extend(divmod(k, scale))
        numbers = halves
    return "".join([str(k).zfill(SHORT) for k in numbers]).lstrip("0")
