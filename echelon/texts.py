"""Texts of domains, elements, vectors, matrices and claims (points 160 to 162)."""

from math import gcd

from echelon.digits import digits_of, number_of
from echelon.domains import is_domain, need_domain
from echelon.errors import TextError

MOST_DIGITS = 100000
MOST_LINES = 1000

# What single signs stand for in the text of a claim.
SIGNS = {"-": None, "T": True, "F": False}


def write_integer(n):
    """Return the text of an integer."""
    return ("-" if n < 0 else "") + digits_of(abs(n))


def write_domain(d):
    """Return the text of a domain."""
    need_domain(d)
    if d[0] == "F":
        return "F" + write_integer(d[1])
    if d[0] == "P":
        return "P" + write_domain(d[1])
    return d[0]


def write_element(d, x):
    """Return the text of an element."""
    need_domain(d)
    if d[0] == "P":
        return "{" + " ".join([write_number(d[1], c) for c in x]) + "}"
    return write_number(d, x)


def write_number(d, x):
    """Return the text of an element of a domain that has no polynomials."""
    if d[0] != "Q":
        return write_integer(x)
    if x[1] == 1:
        return write_integer(x[0])
    return write_integer(x[0]) + "/" + write_integer(x[1])


def write_row(d, v):
    """Return the texts of elements, separated by single spaces."""
    return " ".join([write_element(d, x) for x in v])


def write_vector(d, v):
    """Return the text of a vector."""
    need_domain(d)
    return "<" + write_row(d, v) + ">"


def write_matrix(d, a):
    """Return the text of a matrix."""
    need_domain(d)
    m, n, rows = a
    if m == 0 or n == 0:
        return "[" + write_integer(m) + "x" + write_integer(n) + "]"
    return "[" + "; ".join([write_row(d, row) for row in rows]) + "]"


def is_digits(text):
    """Return whether a text consists of decimal digits, at least one."""
    return text.isascii() and text.isdigit()


def read_natural(text):
    """Return the integer of a text without a sign."""
    if not is_digits(text) or len(text) > MOST_DIGITS:
        raise TextError(1)
    if text[0] == "0" and text != "0":
        raise TextError(1)
    return number_of(text)


def read_integer(text):
    """Return the integer of a text."""
    if not text.startswith("-"):
        return read_natural(text)
    n = read_natural(text[1:])
    if n == 0:
        raise TextError(1)
    return -n


def read_domain(text):
    """Return the domain of a text."""
    if text.startswith("P"):
        d = ("P", read_domain_of_numbers(text[1:]))
    else:
        d = read_domain_of_numbers(text)
    if not is_domain(d):
        raise TextError(1)
    return d


def read_domain_of_numbers(text):
    """Return what may be a domain without polynomials."""
    if text.startswith("F"):
        return "F", read_natural(text[1:])
    return (text,)


def read_element(d, text):
    """Return the element of a text."""
    need_domain(d)
    if d[0] != "P":
        return read_number(d, text)
    if not is_within(text, "{", "}"):
        raise TextError(1)
    if text == "{}":
        return ()
    out = tuple([read_number(d[1], word) for word in text[1:-1].split(" ")])
    if out[-1] in (0, (0, 1)):
        raise TextError(1)
    return out


def is_within(text, first, last):
    """Return whether a text begins with one sign and ends with another one."""
    return text.startswith(first) and text.endswith(last)


def read_number(d, text):
    """Return the element of a domain that has no polynomials."""
    if d[0] == "Q":
        return read_fraction(text)
    n = read_integer(text)
    if d[0] == "F" and (n < 0 or n >= d[1]):
        raise TextError(1)
    return n


def read_fraction(text):
    """Return the fraction of a text."""
    above, bar, below = text.partition("/")
    n = read_integer(above)
    if not bar:
        return n, 1
    d = read_natural(below)
    if d < 2 or gcd(n, d) > 1:
        raise TextError(1)
    return n, d


def read_row(d, text):
    """Return the tuple of elements that are separated by single spaces, at least one."""
    if d[0] != "P":
        return tuple([read_number(d, word) for word in text.split(" ")])
    if not is_within(text, "{", "}"):
        raise TextError(1)
    return tuple([read_element(d, "{" + word + "}") for word in text[1:-1].split("} {")])


def read_vector(d, text):
    """Return the vector of a text."""
    need_domain(d)
    if not is_within(text, "<", ">"):
        raise TextError(1)
    if text == "<>":
        return ()
    return read_row(d, text[1:-1])


def read_matrix(d, text):
    """Return the matrix of a text."""
    need_domain(d)
    if not is_within(text, "[", "]"):
        raise TextError(1)
    if "x" in text:
        return read_sizes(text[1:-1])
    rows = [read_row(d, line) for line in text[1:-1].split("; ")]
    n = len(rows[0])
    for row in rows:
        if len(row) != n:
            raise TextError(1)
    return len(rows), n, tuple(rows)


def read_sizes(text):
    """Return the matrix without entries whose numbers of rows and columns are given."""
    first, _, second = text.partition("x")
    m, n = read_natural(first), read_natural(second)
    if m > MOST_LINES or n > MOST_LINES or (m and n):
        raise TextError(1)
    return m, n, ((),) * m


def write_claim(claim):
    """Return the text of a nested tuple."""
    out = []
    # Pairs of whether something is text already, and itself; the last one comes next.
    rest = [(False, claim)]
    while rest:
        is_text, x = rest.pop()
        if is_text:
            out.append(x)
        elif isinstance(x, tuple):
            out.append("(")
            rest.append((True, ")"))
            for k in range(len(x) - 1, -1, -1):
                rest.append((False, x[k]))
                if k:
                    rest.append((True, " "))
        else:
            out.append(write_part(x))
    return "".join(out)


def write_part(x):
    """Return the text of a part that is no tuple."""
    if x is None:
        return "-"
    if x is True:
        return "T"
    if x is False:
        return "F"
    if isinstance(x, str):
        return '"' + x + '"'
    return write_integer(x)


def read_claim(text):
    """Return the nested tuple of a text."""
    if text[:1] != "(":
        raise TextError(1)
    # The parts so far of each tuple that is open.
    held = [[]]
    whole = ()
    is_fresh = True
    at = 1
    while held:
        if text[at:at + 1] == ")":
            whole = tuple(held.pop())
            if held:
                held[-1].append(whole)
            is_fresh = False
            at += 1
            continue
        if not is_fresh:
            if text[at:at + 1] != " ":
                raise TextError(1)
            at += 1
        is_fresh = text[at:at + 1] == "("
        if is_fresh:
            held.append([])
            at += 1
        else:
            part, at = read_part(text, at)
            held[-1].append(part)
    if at < len(text):
        raise TextError(1)
    return whole


def read_part(text, at):
    """Return (part, end): the part that is no tuple and begins at a place, and the place behind it."""
    if text[at:at + 1] == '"':
        end = text.find('"', at + 1)
        if end < 0 or not is_letters(text[at + 1:end]):
            raise TextError(1)
        return text[at + 1:end], end + 1
    end = at
    while end < len(text) and text[end] not in ' ()"':
        end += 1
    word = text[at:end]
    if word in SIGNS:
        return SIGNS[word], end
    return read_integer(word), end


def is_letters(text):
    """Return whether a text consists of letters and spaces alone."""
    letters = text.replace(" ", "")
    return letters == "" or (letters.isascii() and letters.isalpha())
