"""Facts that are told about walls, and what follows from them for all nets of a sort that keep them."""

from behindtaps.claims import are_claim_terms, summed, worth_in
from behindtaps.errors import BadFact, BadFacts, BadWalls, BadWeights
from behindtaps.kinds import is_in_reach, kinds_of, worth_in_kind
from behindtaps.leastsums import check_spoken_of, lowest_sum
from behindtaps.lots import check_sort, check_taps, is_lot
from behindtaps.nets import beside, check_net, scaled
from behindtaps.numbers import are_numbers_from_0, is_less, is_number, minus, plus, quotient, sum_of_products, times
from behindtaps.numbers import top_of, turned
from behindtaps.verdicts import decided

MOST_FACTS = 30
MOST_MEASURED = 15


def is_fact(taps, value):
    """Whether any value is a fact about the taps."""
    check_taps(taps)
    return is_fact_about(taps, value)


def measured(taps, walls):
    """The facts that tell the walls of some lots: each one is not less, and not more."""
    check_taps(taps)
    if not isinstance(walls, dict) or len(walls) > MOST_MEASURED or not all([is_lot(taps, lot) for lot in walls]):
        raise BadWalls("walls is a dict of at most 15 items from lots of the taps")
    if not all([is_number(told) for told in walls.values()]):
        raise BadWalls("walls are numbers")
    facts = []
    for lot in sorted(walls):
        facts.extend([(((lot, 1),), walls[lot]), (((lot, -1),), turned(walls[lot]))])
    return facts


def keeps(net, facts):
    """Whether the net keeps the facts."""
    check_net(net)
    check_facts(net[0], facts)
    return all([not is_less(worth_in((net[0], terms), net), bound) for terms, bound in facts])


def rest(taps, facts, weights, fact):
    """The fact less all facts, each times its weight."""
    check_taps(taps)
    check_facts(taps, facts)
    if not are_numbers_from_0(weights, len(facts)):
        raise BadWeights("weights are a tuple of a number from 0 on for each of the facts")
    check_fact(taps, fact)
    return rest_of(taps, facts, weights, fact)


def is_reason(taps, facts, sort, fact, value):
    """Whether any value is a reason for the fact."""
    check_taps(taps)
    check_facts(taps, facts)
    check_sort(sort)
    check_fact(taps, fact)
    if not are_numbers_from_0(value, len(facts)):
        return False
    terms, bound = rest_of(taps, facts, value, fact)
    return top_of(bound) <= 0 and holds_in_all(taps, sort, terms)


def follows(taps, facts, sort, fact):
    """A reason for the fact and a net that keeps the facts, or a net that keeps them alone, or a reason for a clash."""
    check_taps(taps)
    check_facts(taps, facts)
    check_sort(sort)
    check_fact(taps, fact)
    check_spoken_of(taps, facts, sort, fact[0])
    return followed(taps, facts, sort, fact)


def is_fact_about(taps, value):
    """As is_fact, of what are surely taps."""
    return isinstance(value, tuple) and len(value) == 2 and are_claim_terms(taps, value[0]) and is_number(value[1])


def check_fact(taps, fact):
    if not is_fact_about(taps, fact):
        raise BadFact("a fact is a pair of ascending terms and a bound")


def check_facts(taps, facts):
    if not isinstance(facts, (list, tuple)) or len(facts) > MOST_FACTS:
        raise BadFacts("facts are a list of at most 30 facts")
    if not all([is_fact_about(taps, fact) for fact in facts]):
        raise BadFacts("facts are facts about the taps")


def rest_of(taps, facts, weights, fact):
    """As rest, of what are surely facts and weights for them."""
    terms = list(fact[0])
    for (told, _), share in zip(facts, weights):
        terms.extend([(lot, turned(times(weight, share))) for lot, weight in told])
    bound = sum_of_products(weights, [bound for _, bound in facts])
    return (summed(taps, terms)[1], minus(fact[1], bound))


def holds_in_all(taps, sort, terms):
    """Whether the claim of the terms holds in all nets of the sort."""
    if is_in_reach(taps, sort):
        return not any([top_of(worth_in_kind(terms, kind)) < 0 for kind in kinds_of(taps, sort)])
    return decided((taps, terms), sort)[0] == "holds"


def followed(taps, facts, sort, fact):
    """As follows, where few enough lots are spoken of."""
    terms, bound = fact
    told = lowest_sum(taps, facts, sort, terms)
    if told[0] == "clash":
        return told
    if told[0] == "endless":
        return ("breaks", net_below(told[1], told[2], terms, bound))
    _, value, net, weights = told
    if is_less(value, bound):
        return ("breaks", net)
    return ("follows", weights, net)


def net_below(net, way, terms, bound):
    """The net with the way laid beside it so often that the sum of the terms is below the bound."""
    more = minus(worth_in((net[0], terms), net), bound)
    if top_of(more) < 0:
        return net
    often = plus(1, quotient(more, turned(worth_in((net[0], terms), way))))
    return beside(net, scaled(way, often))
