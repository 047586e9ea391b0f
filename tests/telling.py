"""What the tests of facts and ranges share: hidden nets, facts that they keep, and reasons worked out slowly."""

from fractions import Fraction

from checking import NAMES, all_lots, as_number, drawn_net, fraction, net_sort, other_taps, plain
from judging import claim_with, counted_worth, paper_faults, sum_weights

from behindtaps.kinds import kinds
from behindtaps.nets import is_net, places_of
from behindtaps.verdicts import verdict

REACH = {"pipes": 5, "hubs": 4, "leads": 3}


def in_reach(taps, sort):
    return len(taps) <= REACH[sort]


def net_faults(net, taps, sort):
    """What is wrong with a net of the sort with these taps."""
    if not is_net(net) or net[0] != taps or net_sort(net) not in (sort, "pipes"):
        return ["net"]
    return [] if len(places_of(net)) <= 22 else ["too many places to be counted"]


def kept(net, fact):
    """Whether the net keeps the fact, walls counted over all sides."""
    return counted_worth((net[0], fact[0]), net) >= fraction(fact[1])


def keeping_faults(net, taps, sort, facts):
    """What is wrong with a net of the sort that should keep the facts."""
    return net_faults(net, taps, sort) or [fact for fact in facts if not kept(net, fact)]


def rest_weights(facts, weights, fact):
    """The weights by lot, as they stand, and the bound of a fact less all facts times weights."""
    found = {lot: fraction(weight) for lot, weight in fact[0]}
    bound = fraction(fact[1])
    for (terms, told), share in zip(facts, weights):
        bound -= fraction(share) * fraction(told)
        for lot, weight in terms:
            found[lot] = found.get(lot, 0) - fraction(share) * fraction(weight)
    return {lot: found[lot] for lot in sorted(found) if found[lot] != 0}, bound


def holds_in_all(taps, sort, weights):
    """Whether the claim of fractions by lot holds in all nets of the sort, shown by kinds or by a paper."""
    claim = claim_with(taps, weights)
    if in_reach(taps, sort):
        return all(counted_worth(claim, kind) >= 0 for kind in kinds(taps, sort))
    word, shown = verdict(claim, sort)
    return word == "holds" and paper_faults(claim, sort, shown) == []


def reason_faults(taps, facts, sort, fact, weights):
    """What is wrong with a reason for the fact."""
    if type(weights) is not tuple or len(weights) != len(facts) or any(fraction(weight) < 0 for weight in weights):
        return ["form"]
    rest, bound = rest_weights(facts, weights, fact)
    if bound > 0:
        return ["bound"]
    return [] if holds_in_all(taps, sort, rest) else ["rest"]


def drawn_terms_of(draw, taps, many=3, lots=None):
    """Terms of a fact, lots as they stand."""
    lots = lots or all_lots(taps)
    chosen = draw.sample(lots, min(len(lots), draw.randint(0 if draw.random() < 0.1 else 1, many)))
    weights = {lot: Fraction(draw.choice((1, 1, 2, 3)), draw.choice((1, 1, 2, 3))) * draw.choice((1, -1)) for lot in chosen}
    return claim_with(taps, weights)[1]


def kept_fact(draw, net, many=3, lots=None):
    """A fact that the net keeps, with slack or none."""
    terms = drawn_terms_of(draw, net[0], many, lots)
    slack = draw.choice((0, 0, 1, Fraction(1, 2), 5))
    return (terms, as_number(counted_worth((net[0], terms), net) - slack))


def hidden_net(draw, sort, many=None):
    """A drawn net of the sort within its reach, or with so many taps."""
    many = many or draw.randint(2, REACH[sort])
    return drawn_net(draw, NAMES[:many], sort, 2, 7, draw.choice(("whole", "whole", "fraction")))


def changed_facts(draw, taps, sort, facts):
    """The facts in another order, some told twice, multiplied, with opposites in the place of lots."""
    found = list(facts) + draw.sample(facts, min(2, len(facts)))
    draw.shuffle(found)
    told = []
    for terms, bound in found:
        factor = draw.choice((1, 2, Fraction(1, 3)))
        weights = {}
        for lot, weight in terms:
            turn = sort != "leads" and draw.random() < 0.5
            key = other_taps(taps, lot) if turn else lot
            weights[key] = weights.get(key, 0) + fraction(weight) * factor
        told.append((claim_with(taps, weights)[1], as_number(fraction(bound) * factor)))
    return told


def unlike_lots(taps, sort, lots):
    """The lots that nets of the sort tell apart."""
    return {lot if sort == "leads" else plain(taps, lot) for lot in lots}


def same_worths(taps, sort, one, other):
    """Whether two terms are one in all nets of the sort."""
    return sum_weights(taps, [(dict(one), 1)], sort) == sum_weights(taps, [(dict(other), 1)], sort)
