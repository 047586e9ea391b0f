"""Sums and their means: which sum is somewhere the least one, and which is nowhere below the others.

A sum is a list of numbers, at the end what it is worth by itself, before it how often it counts each of
some unknowns, which are never below 0.
"""

from behindtaps.climbs import Climb
from behindtaps.numbers import is_less, minus, plus, quotient, scaled_to_wholes, times


def below_or_covered(own, others):
    """("below", point): unknowns for which the sum is worth less than each of the others.

    Otherwise ("covered", weights): numbers from 0 on, together 1, one for each of the others, whose mean
    nowhere has more than the sum.
    """
    if len(others) == 0:
        return ("below", (0,) * (len(own) - 1))
    for at, other in enumerate(others):
        if is_nowhere_more(other, own):
            return ("covered", tuple([1 if at == place else 0 for place in range(len(others))]))
    climb = Climb([1] * len(others))
    scales = []
    for at in range(len(own)):
        tops, scale = scaled_to_wholes([minus(other[at], own[at]) for other in others])
        climb.put_row(list(enumerate(tops)), 0)
        scales.append(scale)
    climb.put_row([(at, 1) for at in range(len(others))], 1)
    climb.go_up()
    if climb.worth() > 0:
        return ("covered", tuple([quotient(top, climb.whole()) for top in climb.tops()]))
    weights = climb.row_weights()
    shares = [times(weights.get(at, 0), scale) for at, scale in enumerate(scales)]
    return ("below", point_of(own, others, shares))


def is_nowhere_more(one, other):
    """Whether a sum has nowhere more than another one."""
    return not any([is_less(more, entry) for entry, more in zip(one, other)])


def point_of(own, others, shares):
    """Unknowns made of shares with which each of the others has more than the sum, at least by 1."""
    if shares[-1] != 0:
        return tuple([quotient(entry, shares[-1]) for entry in shares[:-1]])
    # The unknowns alone make each of the others more; they are made so great that nothing else counts.
    factor = 1
    for other in others:
        lost = minus(own[-1], other[-1])
        if not is_less(lost, factor):
            factor = plus(lost, 1)
    return tuple([times(entry, factor) for entry in shares[:-1]])
