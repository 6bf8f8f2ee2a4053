"""The desk: lines of commands, and the lines that answer them (points 163 to 166)."""

from echelon.answers import answer
from echelon.errors import DomainError, ShapeError, SingularError, TextError
from echelon.judge import judge
from echelon.limits import is_name, is_small_matrix, is_small_vector
from echelon.results import result_of
from echelon.texts import (
    read_claim, read_domain, read_integer, read_matrix, read_vector, write_claim,
)

WHOLE = ("Z",)
MOST_TUPLES = 60
MOST_SIGNS = 200000

# For each kind of question what its names mean, and whether the question names the domain.
KINDS = {
    "rank": (("matrix",), True),
    "echelon": (("matrix",), True),
    "kernel": (("matrix",), True),
    "invert": (("matrix",), True),
    "determinant": (("matrix",), True),
    "hermite": (("matrix",), True),
    "smith": (("matrix",), True),
    "frobenius": (("matrix",), True),
    "characteristic": (("matrix",), True),
    "minimal": (("matrix",), True),
    "jordan": (("matrix",), True),
    "reduce": (("matrix",), False),
    "shortest": (("matrix",), False),
    "integer-kernel": (("matrix",), False),
    "similar": (("matrix", "matrix"), True),
    "lattice": (("matrix", "matrix"), False),
    "solve": (("matrix", "vector"), True),
    "integer-solve": (("matrix", "vector"), False),
    "member": (("matrix", "vector"), False),
}


class Desk:
    """The meanings of names, each a triple of a word, a domain and a value, and the claims so far."""

    def __init__(self):
        self.meanings = {}
        self.claims = []

    def obey(self, line):
        """Return what answers a line, None for nothing; raise TextError if it is no command."""
        command, _, rest = line.partition(" ")
        if command == "matrix" or command == "vector":
            return self.hold(command, rest)
        if command == "ask":
            return self.ask(rest)
        if command == "claim":
            return self.tell(rest)
        if command == "judge":
            return verdict(rest)
        raise TextError(1)

    def hold(self, word, rest):
        """Give a name to a matrix or vector."""
        parts = rest.split(" ", 2)
        if len(parts) < 3 or not is_name(parts[0]):
            raise TextError(1)
        d = read_domain(parts[1])
        if word == "matrix":
            value = read_matrix(d, parts[2])
            is_small = is_small_matrix(d, value)
        else:
            value = read_vector(d, parts[2])
            is_small = is_small_vector(d, value)
        if not is_small:
            raise TextError(1)
        self.meanings[parts[0]] = (word, d, value)

    def ask(self, rest):
        """Answer a question, and keep the claim."""
        words = rest.split(" ")
        if words[0] not in KINDS:
            raise TextError(1)
        needed, has_domain = KINDS[words[0]]
        d, values = self.look_up(words[1:], needed)
        head = words[0].replace("-", " ")
        if d is None or (d != WHOLE and not has_domain):
            return "refused DomainError"
        question = (head, d) if has_domain else (head,)
        return self.keep(question + values)

    def look_up(self, names, needed):
        """Return (d, values) for names of these meanings; d is None if they have several domains."""
        if len(names) != len(needed):
            raise TextError(1)
        found = []
        for name, word in zip(names, needed):
            if name not in self.meanings or self.meanings[name][0] != word:
                raise TextError(1)
            found.append(self.meanings[name])
        d = found[0][1]
        for _, other, _ in found:
            if other != d:
                d = None
        return d, tuple([value for _, _, value in found])

    def keep(self, question):
        """Return the line that answers a question: a refusal, or the number of the claim and more."""
        try:
            claim = answer(question)
        except DomainError:
            return "refused DomainError"
        except ShapeError:
            return "refused ShapeError"
        except SingularError:
            return "refused SingularError"
        self.claims.append(claim)
        words = [str(len(self.claims)), claim[0].replace(" ", "-"), result_of(claim)]
        return " ".join([word for word in words if word])

    def tell(self, rest):
        """Return the text of a claim."""
        number = read_integer(rest)
        if number < 1 or number > len(self.claims):
            raise TextError(1)
        return write_claim(self.claims[number - 1])


def verdict(text):
    """Return what the judge says of a text."""
    claim = read_claim(text)
    if len(text) > MOST_SIGNS or depth_of(text) > MOST_TUPLES:
        return "false"
    return "true" if judge(claim) else "false"


def depth_of(text):
    """Return how many tuples stand within one another in the text of a tuple."""
    deepest = 0
    depth = 0
    for sign in text:
        if sign == "(":
            depth += 1
            deepest = max(deepest, depth)
        elif sign == ")":
            depth -= 1
    return deepest


def desk(text):
    """Return the list of the lines that answer the lines of a text."""
    lines = text.split("\n")
    # Behind the last newline there is no line, and neither is there one in the empty text.
    if lines[-1] == "":
        lines.pop()
    place = Desk()
    out = []
    for number, line in enumerate(lines, start=1):
        try:
            said = place.obey(line)
        except TextError:
            said = "error " + str(number)
        if said is not None:
            out.append(said)
    return out
