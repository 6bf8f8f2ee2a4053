"""The results of claims, as the desk writes them (point 165)."""

from echelon.texts import write_element, write_integer, write_matrix, write_vector

# For each kind of claim with a result how it is written, over which domain, and its place.
# Where there is no domain it is that of the claim.
RESULTS = {
    "rank": ("integer", None, 3),
    "determinant": ("element", None, 3),
    "characteristic": ("polynomial", None, 3),
    "minimal": ("polynomial", None, 3),
    "echelon": ("matrix", None, 3),
    "kernel": ("matrix", None, 3),
    "inverse": ("matrix", None, 3),
    "hermite": ("matrix", None, 3),
    "smith": ("matrix", None, 3),
    "integer kernel": ("matrix", ("Z",), 2),
    "reduced": ("matrix", ("Z",), 2),
    "solution": ("vector", None, 4),
    "no solution": ("vector", None, 4),
    "singular": ("vector", None, 3),
    "integer solution": ("vector", ("Z",), 3),
    "no integer solution": ("vector", ("Q",), 3),
    "member": ("vector", ("Z",), 3),
    "not member": ("vector", ("Q",), 3),
    "shortest": ("vector", ("Z",), 2),
    "frobenius": ("polynomials", None, 3),
    "no jordan": ("polynomials", None, 3),
    "jordan": ("blocks", None, 3),
}


def result_of(claim):
    """Return the text of the result of a claim, the empty one if there is none."""
    if claim[0] not in RESULTS:
        return ""
    form, d, at = RESULTS[claim[0]]
    return written(form, claim[1] if d is None else d, claim[at])


def written(form, d, x):
    """Return the text of a result of this form."""
    if form == "integer":
        return write_integer(x)
    if form == "element":
        return write_element(d, x)
    if form == "polynomial":
        return write_element(("P", d), x)
    if form == "matrix":
        return write_matrix(d, x)
    if form == "vector":
        return write_vector(d, x)
    if form == "polynomials":
        return " ".join([write_element(("P", d), g) for g in x])
    return " ".join([write_element(d, y) + ":" + write_integer(k) for y, k in x])
