"""The least and the greatest walls, and the fewest facts, in all nets of a sort that keep facts."""

from itertools import combinations

from behindtaps.claims import are_claim_terms
from behindtaps.errors import BadFacts, BadTerms
from behindtaps.facts import check_fact, check_facts, followed
from behindtaps.leastsums import check_spoken_of, lowest_sum
from behindtaps.lots import check_lot, check_sort, check_taps, plain_lots_in
from behindtaps.numbers import turned

MOST_FACTS_TO_CHOOSE_FROM = 6


def least_sum(taps, facts, sort, terms):
    """The least sum of the terms in all nets of the sort that keep the facts, and what shows it."""
    check_taps(taps)
    check_facts(taps, facts)
    check_sort(sort)
    if not are_claim_terms(taps, terms):
        raise BadTerms("terms are an ascending tuple of pairs of a lot and a number that is not 0")
    check_spoken_of(taps, facts, sort, terms)
    return lowest_sum(taps, facts, sort, terms)


def range_of(taps, facts, sort, lot):
    """The pair of the least and the greatest wall of the lot; None if the facts clash."""
    check_taps(taps)
    check_facts(taps, facts)
    check_sort(sort)
    check_lot(taps, lot)
    check_both_ends(taps, facts, sort, lot)
    return ends_of(taps, facts, sort, lot)


def ranges(taps, facts, sort):
    """The dict from each plain lot to its range; None if the facts clash."""
    check_for_ranges(taps, facts, sort)
    return all_ranges(taps, facts, sort)


def settled(taps, facts, sort):
    """The dict from each plain lot whose wall the facts leave no choice to this wall; None if the facts clash."""
    check_for_ranges(taps, facts, sort)
    told = all_ranges(taps, facts, sort)
    if told is None:
        return None
    found = {}
    for lot, (low, high) in told.items():
        if low == high:
            found[lot] = low
    return found


def enough(taps, facts, sort, fact):
    """The ascending list of the least tuples of indices of facts from which alone the fact follows."""
    check_taps(taps)
    check_facts(taps, facts)
    if len(facts) > MOST_FACTS_TO_CHOOSE_FROM:
        raise BadFacts("facts are here at most 6")
    check_sort(sort)
    check_fact(taps, fact)
    check_spoken_of(taps, facts, sort, fact[0])
    found = []
    for many in range(len(facts) + 1):
        for chosen in combinations(list(range(len(facts))), many):
            if any([all([at in chosen for at in fewer]) for fewer in found]):
                continue
            if followed(taps, [facts[at] for at in chosen], sort, fact)[0] != "breaks":
                found.append(chosen)
    return sorted(found)


def check_both_ends(taps, facts, sort, lot):
    """Checks that beyond the reach both ends of the range of the lot can be told."""
    check_spoken_of(taps, facts, sort, ((lot, 1),))
    check_spoken_of(taps, facts, sort, ((lot, -1),))


def check_for_ranges(taps, facts, sort):
    """Checks the parameters of ranges."""
    check_taps(taps)
    check_facts(taps, facts)
    check_sort(sort)
    for lot in plain_lots_in(taps, sort):
        check_both_ends(taps, facts, sort, lot)


def all_ranges(taps, facts, sort):
    """As ranges, where few enough lots are spoken of."""
    found = {}
    for lot in plain_lots_in(taps, sort):
        ends = ends_of(taps, facts, sort, lot)
        if ends is None:
            return None
        found[lot] = ends
    return found


def ends_of(taps, facts, sort, lot):
    """As range_of, where few enough lots are spoken of."""
    low = lowest_sum(taps, facts, sort, ((lot, 1),))
    if low[0] == "clash":
        return None
    high = lowest_sum(taps, facts, sort, ((lot, -1),))
    return (low[1], turned(high[1]) if high[0] == "least" else None)
