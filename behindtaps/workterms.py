"""Terms of works, and measurements that are told of boxes, as rows of numbers.

A term is spoken of as a pair (rows, weight): the needed sums of its lot, as rows over all boxes, and its
weight without its sign. What is told is spoken of as a pair (row, bound).
"""

from behindtaps.errors import BadTerms, BadTold, TooMany
from behindtaps.lots import is_lot, is_name
from behindtaps.neededsums import needed_in, row_of
from behindtaps.numbers import is_number, plus, times, top_of, turned
from behindtaps.works import MOST_BOXES, SEATS, boxes_in, counts_of_legs, is_work, seven

MOST_TERMS = 6
MOST_TOLD = 6
MOST_CHOICES = 32


def check_work_terms(terms):
    if not isinstance(terms, tuple) or len(terms) > MOST_TERMS or not all([is_work_term(term) for term in terms]):
        raise BadTerms("terms are a tuple of at most 6 pairs of a work with a lot of its taps, and a weight")


def check_told(told):
    if not isinstance(told, (list, tuple)) or len(told) > MOST_TOLD or not all([is_told(item) for item in told]):
        raise BadTold("told is a list of at most 6 pairs of facts about boxes and a bound")


def is_work_term(value):
    """Whether any value is a pair of a work with one of its lots, and a number that is not 0."""
    if not isinstance(value, tuple) or len(value) != 2 or not isinstance(value[0], tuple) or len(value[0]) != 2:
        return False
    (work, lot), weight = value
    return is_work(work) and is_lot(work[0], lot) and is_number(weight) and weight != 0


def is_told(value):
    """Whether any value is a pair of a tuple of facts about boxes and a bound."""
    if not isinstance(value, tuple) or len(value) != 2 or not isinstance(value[0], tuple):
        return False
    return all([is_fact_of_box(fact) for fact in value[0]]) and is_number(value[1])


def is_fact_of_box(value):
    """Whether any value is a pair of a box with a lot of its legs, and a number that is not 0."""
    if not isinstance(value, tuple) or len(value) != 2 or not isinstance(value[0], tuple) or len(value[0]) != 2:
        return False
    (name, lot), weight = value
    return is_name(name) and is_lot(SEATS, lot) and is_number(weight) and weight != 0


def boxes_spoken_of(works, told):
    """The ascending list of the boxes of the works and of what is told, if they are few."""
    names = []
    for work in works:
        names.extend(boxes_in(work))
    for facts, _ in told:
        names.extend([name for (name, _), _ in facts])
    boxes = sorted(set(names))
    if len(boxes) > MOST_BOXES:
        raise TooMany(MOST_BOXES)
    return boxes


def spoken_terms(terms, boxes, side):
    """The terms with weights above 0 (side 1) or below 0 (side -1), in their order."""
    found = []
    for (work, lot), weight in terms:
        if side * top_of(weight) > 0:
            own = boxes_in(work)
            rows = [row_of(told, own, boxes) for told in needed_in(work, lot)]
            found.append((rows, weight if side > 0 else turned(weight)))
    return found


def spoken_told(told, boxes):
    """What is told, in its order."""
    found = []
    for facts, bound in told:
        row = [0] * (len(boxes) * len(seven()))
        for (name, lot), weight in facts:
            start = boxes.index(name) * len(seven())
            for at, many in enumerate(counts_of_legs(lot)):
                row[start + at] = plus(row[start + at], times(many, weight))
        found.append((row, bound))
    return found


def choices_of(greater):
    """The ascending list of the choices of a needed sum for each greater term, if they are not too many."""
    many = 1
    for rows, _ in greater:
        many *= len(rows)
    if many > MOST_CHOICES:
        raise TooMany(MOST_CHOICES)
    found = [()]
    for rows, _ in greater:
        found = [choice + (at,) for choice in found for at in range(len(rows))]
    return found


def chosen_row(greater, choice, many):
    """The sum of the chosen rows, of so many numbers, times the weights of their terms."""
    found = [0] * many
    for (rows, weight), at in zip(greater, choice):
        found = [plus(entry, times(weight, other)) for entry, other in zip(found, rows[at])]
    return found
