"""The judge: it decides from a claim alone whether it is true (points 140 to 147)."""

from echelon.fieldforms import FIELD_FORMS
from echelon.latticeforms import LATTICE_FORMS
from echelon.operatorforms import OPERATOR_FORMS
from echelon.ringforms import RING_FORMS


def judge(claim):
    """Return whether any value is a claim whose conditions hold."""
    if not isinstance(claim, tuple) or not claim or not isinstance(claim[0], str):
        return False
    form = form_of(claim[0])
    if form is None:
        return False
    many, accepts = form
    return len(claim) == many + 1 and accepts(claim)


def form_of(name):
    """Return the number of parts and the function of a form of claims, or None if there is none."""
    if name in FIELD_FORMS:
        return FIELD_FORMS[name]
    if name in RING_FORMS:
        return RING_FORMS[name]
    if name in LATTICE_FORMS:
        return LATTICE_FORMS[name]
    if name in OPERATOR_FORMS:
        return OPERATOR_FORMS[name]
    return None
