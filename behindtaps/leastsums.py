"""The least sum of walls in all nets of a sort that keep facts.

A fact is a pair (terms, bound). An answer is one of the tuples that least_sum returns: ("least", value,
net, weights), ("endless", net, way), ("clash", weights). Within the reach of the sort all nets are sums
of kinds. Beyond it they are looked at along a cube, whose directions are all lots on which a weighted
sum of the terms less the facts can be greater, and whose targets are those on which it can be lesser.
"""

from behindtaps.cubewidths import CubeWidths
from behindtaps.errors import TooMany
from behindtaps.inequalities import lowest
from behindtaps.kinds import is_in_reach, kinds_of, net_of_kinds, worth_in_kind
from behindtaps.lots import plain_lot_in
from behindtaps.numbers import quotient, sum_of_products, top_of, turned

MOST_GREATER = 3
MOST_GREATER_FOR_HUBS = 2
MOST_LESSER = 3


def check_spoken_of(taps, facts, sort, terms):
    """Checks that beyond the reach only few lots are spoken of."""
    if is_in_reach(taps, sort):
        return
    most = MOST_GREATER_FOR_HUBS if sort == "hubs" else MOST_GREATER
    if len(greater_lots(taps, facts, sort, terms)) > most:
        raise TooMany(most)
    if len(lesser_lots(taps, facts, sort, terms)) > MOST_LESSER:
        raise TooMany(MOST_LESSER)


def greater_lots(taps, facts, sort, terms):
    """The ascending list of the lots that are greater in the terms or lesser in a fact."""
    return lots_with_sign(taps, sort, terms, [fact_terms for fact_terms, _ in facts], 1)


def lesser_lots(taps, facts, sort, terms):
    """The ascending list of the lots that are lesser in the terms or greater in a fact."""
    return lots_with_sign(taps, sort, terms, [fact_terms for fact_terms, _ in facts], -1)


def lots_with_sign(taps, sort, terms, others, side):
    """The ascending list of the lots with weights of this sign in the terms, or of the other sign in others."""
    found = [lot for lot, weight in terms if side * top_of(weight) > 0]
    for other_terms in others:
        found.extend([lot for lot, weight in other_terms if side * top_of(weight) < 0])
    return sorted(set([key_of(taps, sort, lot) for lot in found]))


def key_of(taps, sort, lot):
    """The lot that stands for this one in nets of the sort."""
    return lot if sort == "leads" else plain_lot_in(taps, lot)


def lowest_sum(taps, facts, sort, terms):
    """What least_sum returns."""
    if is_in_reach(taps, sort):
        return lowest_by_kinds(taps, facts, sort, terms)
    return lowest_along_cube(taps, facts, sort, terms)


def lowest_by_kinds(taps, facts, sort, terms):
    """The answer where all nets are sums of kinds."""
    every = kinds_of(taps, sort)
    rows = [(tuple([worth_in_kind(told, kind) for kind in every]), bound) for told, bound in facts]
    for at in range(len(every)):
        rows.append((tuple([1 if at == other else 0 for other in range(len(every))]), 0))
    told = lowest(rows, tuple([worth_in_kind(terms, kind) for kind in every]))
    nets = [net_of_kinds(taps, sort, point) for point in points_of(told)]
    return answer(facts, told, nets)


def lowest_along_cube(taps, facts, sort, terms):
    """The answer where nets are looked at along a cube, whose cuts are put in as they are found to be needed."""
    cube = CubeWidths(taps, sort, greater_lots(taps, facts, sort, terms), lesser_lots(taps, facts, sort, terms))
    rows = [(cube.row(terms_for(taps, sort, fact_terms)), bound) for fact_terms, bound in facts]
    rows.extend(cube.first_rows())
    # The terms with their signs turned count the other way round: greater ones by widths, lesser ones by what runs.
    against = cube.row([(lot, turned(weight)) for lot, weight in terms_for(taps, sort, terms)])
    aim = tuple([turned(entry) for entry in against])
    told = lowest(rows, aim)
    broken = broken_by(cube, told)
    while len(broken) > 0:
        rows.extend(broken)
        told = lowest(rows, aim)
        broken = broken_by(cube, told)
    return answer(facts, told, [cube.net(point) for point in points_of(told)])


def terms_for(taps, sort, terms):
    """The terms with each lot exchanged for the one that stands for it; a lot may then come twice."""
    return [(key_of(taps, sort, lot), weight) for lot, weight in terms]


def broken_by(cube, told):
    """The rows of the cube that what is told does not meet."""
    rows = []
    for point in points_of(told):
        rows.extend(cube.broken_rows(point))
    return rows


def points_of(told):
    """The points, and ways, in what is told of rows."""
    if told[0] == "none":
        return []
    return [told[2]] if told[0] == "least" else [told[1], told[2]]


def answer(facts, told, nets):
    """What is told of rows, the first of which are those of the facts, said of these nets."""
    if told[0] == "none":
        weights = told[1][:len(facts)]
        share = sum_of_products(weights, [bound for _, bound in facts])
        # So that less these facts the one that no net keeps has just the bound 0.
        return ("clash", tuple([quotient(weight, share) for weight in weights]))
    if told[0] == "endless":
        return ("endless", nets[0], nets[1])
    return ("least", told[1], nets[0], told[3][:len(facts)])
