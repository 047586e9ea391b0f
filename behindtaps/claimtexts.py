"""The texts of claims."""

from behindtaps.claims import check_claim, greater_terms, is_claim, lesser_terms, summed
from behindtaps.errors import BadClaims, BadText
from behindtaps.lots import are_names, are_taps, is_lot
from behindtaps.numbers import number_text, read_number, turned


def claim_text(claim):
    """The text of the claim."""
    check_claim(claim)
    return text_in(claim)


def read_claim(text):
    """The claim that the text tells, its terms in any order."""
    claim = read_text(text) if isinstance(text, str) else None
    if claim is None:
        raise BadText(1)
    return claim


def claims_text(claims):
    """The lines of the texts of the claims."""
    if not isinstance(claims, (list, tuple)) or not all([is_claim(claim) for claim in claims]):
        raise BadClaims("claims are a list of claims")
    return "".join([text_in(claim) + "\n" for claim in claims])


def read_claims(text):
    """The list of the claims that the lines tell."""
    if not isinstance(text, str):
        raise BadText(1)
    lines = text.split("\n")
    claims = []
    for at in range(len(lines) - 1):
        claim = read_text(lines[at])
        if claim is None:
            raise BadText(at + 1)
        claims.append(claim)
    if lines[-1] != "":
        raise BadText(len(lines))
    return claims


def text_in(claim):
    """As claim_text, of what is surely a claim."""
    taps = " ".join(claim[0])
    return f"{taps}: {side_text(greater_terms(claim))} >= {side_text(lesser_terms(claim))}"


def side_text(terms):
    """How one side of a claim is written."""
    if len(terms) == 0:
        return "0"
    return " + ".join([term_text(lot, weight) for lot, weight in terms])


def term_text(lot, weight):
    names = " ".join(lot)
    return f"{number_text(weight)} w({names})"


def read_text(text):
    """The claim that a string tells; None if it tells none."""
    names, _, sides = text.partition(": ")
    taps = tuple(names.split(" "))
    if not are_taps(taps):
        return None
    terms = read_sides(sides)
    if terms is None or not all([is_lot(taps, lot) for lot, _ in terms]):
        return None
    return summed(taps, terms)


def read_sides(text):
    """The list of the terms that two sides tell, weights on the right turned; None if they are no such sides."""
    left, _, right = text.partition(" >= ")
    left_terms = read_side(left)
    right_terms = read_side(right)
    if left_terms is None or right_terms is None:
        return None
    return left_terms + [(lot, turned(weight)) for lot, weight in right_terms]


def read_side(text):
    """The list of the terms that one side tells, of any names; None if it is no such side."""
    if text == "0":
        return []
    terms = [read_term(words) for words in text.split(" + ")]
    if any([term is None for term in terms]):
        return None
    return terms


def read_term(text):
    """The names, ascending, and the weight above 0 of a term; None if it is no term."""
    start, _, end = text.partition(" w(")
    weight = read_number(start)
    names = read_names(end[:-1])
    if not end.endswith(")") or names is None or weight is None or weight == 0:
        return None
    return (names, weight)


def read_names(text):
    """The tuple of names, unlike and ascending, that a text tells; None if it tells none."""
    names = tuple(text.split(" "))
    return names if are_names(names) else None
