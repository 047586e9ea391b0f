"""Rules, which tell more than any net can have, and what holds in all of them."""

from itertools import combinations

from behindtaps.claims import check_claim, is_claim, plain_in, summed, weights_at
from behindtaps.errors import BadGiven, BadRule, BadSteps, BadWay, TooMany
from behindtaps.inequalities import lowest
from behindtaps.lots import check_taps, is_lot, lots_in, plain_lots_in
from behindtaps.numbers import are_numbers_from_0, is_number, sum_of_products, times, top_of

WAYS = ("even", "free")
MOST_FREE_TAPS = 5
MOST_GIVEN = 70


def is_rule(taps, way, value):
    """Whether any value is a rule of the taps for the way."""
    check_taps(taps)
    check_way(way)
    return is_rule_for(taps, way, value)


def rule_worth(claim, way, rule):
    """What the claim is worth in the rule."""
    check_claim(claim)
    check_way(way)
    if not is_rule_for(claim[0], way, rule):
        raise BadRule("it is a rule of the taps of the claim for the way")
    return worth_in_rule(made_plain(claim, way), rule)


def steps_claim(taps, way, steps):
    """The claim whose worth in every rule is the sum of weight times the worth of the step."""
    check_taps(taps)
    check_way(way)
    if not are_steps(taps, way, steps):
        raise BadSteps("steps are a tuple of pairs of a step and a weight above 0, steps unlike")
    return claim_of_steps(taps, way, steps)


def is_derivation(claim, way, value, given=()):
    """Whether any value is a derivation of the claim from the given claims."""
    check_claim(claim)
    check_way(way)
    check_given(claim[0], given)
    if not isinstance(value, tuple) or len(value) != 2:
        return False
    steps, shares = value
    if not are_steps(claim[0], way, steps) or not are_numbers_from_0(shares, len(given)):
        return False
    terms = list(claim_of_steps(claim[0], way, steps)[1])
    for one, share in zip(given, shares):
        terms.extend([(lot, times(weight, share)) for lot, weight in made_plain(one, way)[1]])
    return summed(claim[0], terms) == made_plain(claim, way)


def widest(claim, way, given=()):
    """A derivation of the claim, or a rule that keeps the given claims and breaks it."""
    check_claim(claim)
    check_way(way)
    check_given(claim[0], given)
    check_width(claim[0], way)
    if len(given) > MOST_GIVEN:
        raise TooMany(MOST_GIVEN)
    return derived(claim, way, given)


def four_lots(taps):
    """The claims that hold for pipes beyond those of rules, one for each way to part the taps into four lots."""
    check_taps(taps)
    return [claim_of_four(taps, parts) for parts in sorted(parts_in_four(taps))]


def check_way(way):
    if not isinstance(way, str) or way not in WAYS:
        raise BadWay("a way is even or free")


def check_given(taps, given):
    if not isinstance(given, (list, tuple)) or not all([is_claim(claim) and claim[0] == taps for claim in given]):
        raise BadGiven("given claims are a list of claims with these taps")


def check_width(taps, way):
    """Checks that what holds in all rules of so many taps can be told."""
    if way == "free" and len(taps) > MOST_FREE_TAPS:
        raise TooMany(MOST_FREE_TAPS)


def keys_of(taps, way):
    """The lots at which a rule for the way tells a number."""
    return plain_lots_in(taps, "hubs" if way == "even" else "leads")


def made_plain(claim, way):
    """The claim with just the lots at which a rule for the way tells a number."""
    return plain_in(claim, "hubs" if way == "even" else "leads")


def is_rule_for(taps, way, value):
    """As is_rule, of what are surely taps and a way."""
    keys = keys_of(taps, way)
    if not isinstance(value, dict) or len(value) != len(keys):
        return False
    if not all([lot in value and is_number(value[lot]) for lot in keys]):
        return False
    return not any([top_of(worth_in_rule(claim, value)) < 0 for claim in least_steps(taps, way).values()])


def worth_in_rule(claim, rule):
    """What a claim, plain for the way, is worth in the rule."""
    return sum_of_products([weight for _, weight in claim[1]], [rule[lot] for lot, _ in claim[1]])


def is_step(taps, way, value):
    """Whether any value is a step of the taps for the way."""
    if not isinstance(value, tuple) or len(value) not in (1, 2) or not all([is_lot(taps, lot) for lot in value]):
        return False
    if len(value) == 1:
        return way == "free"
    one, other = value
    return one < other and not all([tap in other for tap in one]) and not all([tap in one for tap in other])


def are_steps(taps, way, value):
    """Whether any value is steps of the taps for the way."""
    if not isinstance(value, tuple) or not all([isinstance(pair, tuple) and len(pair) == 2 for pair in value]):
        return False
    if not all([is_step(taps, way, step) and is_number(weight) and top_of(weight) > 0 for step, weight in value]):
        return False
    return len({step for step, _ in value}) == len(value)


def claim_of_steps(taps, way, steps):
    """As steps_claim, of what are surely steps."""
    terms = []
    for step, weight in steps:
        terms.extend([(lot, times(sign, weight)) for lot, sign in terms_of_step(taps, step)])
    return made_plain(summed(taps, terms), way)


def terms_of_step(taps, step):
    """The lots of which the worth of the step is made, each with 1 or -1."""
    terms = [(lot, 1) for lot in step]
    if len(step) == 2:
        one, other = step
        both = tuple([tap for tap in taps if tap in one and tap in other])
        either = tuple([tap for tap in taps if tap in one or tap in other])
        terms.extend([(lot, -1) for lot in (both, either) if 0 < len(lot) < len(taps)])
    return terms


def least_steps(taps, way):
    """The dict from those steps from which all others are made to their claims, no claim twice.

    A step from two lots is made of such in which each lot has just one tap that the other has not.
    """
    steps = [(lot,) for lot in lots_in(taps)] if way == "free" else []
    for one, other in combinations(list(taps), 2):
        for more in subsets([tap for tap in taps if tap not in (one, other)]):
            steps.append(tuple(sorted([tuple(sorted((*more, one))), tuple(sorted((*more, other)))])))
    found = {}
    for step in steps:
        claim = claim_of_steps(taps, way, ((step, 1),))
        if claim not in list(found.values()):
            found[step] = claim
    return found


def subsets(taps):
    """The list of all tuples of some of the taps, the empty one first."""
    return [some for many in range(len(taps) + 1) for some in combinations(list(taps), many)]


def derived(claim, way, given):
    """As widest, of what are surely a claim, a way and given claims."""
    taps = claim[0]
    keys = keys_of(taps, way)
    steps = least_steps(taps, way)
    claims = list(steps.values()) + [made_plain(one, way) for one in given]
    told = lowest([(weights_at(one, keys), 0) for one in claims], weights_at(made_plain(claim, way), keys))
    if told[0] == "least":
        weighted = [(step, weight) for step, weight in zip(steps, told[3]) if weight != 0]
        return ("holds", (tuple(weighted), told[3][len(steps):]))
    rule = {}
    for lot, worth in zip(keys, told[2]):
        rule[lot] = worth
    return ("breaks", rule)


def parts_in_four(taps):
    """The list of the ways to part the taps into four lots, each a tuple of them, ascending as their first taps are."""
    found = [()]
    for tap in taps:
        more = []
        for parts in found:
            more.extend([parts[:at] + (parts[at] + (tap,),) + parts[at + 1:] for at in range(len(parts))])
            more.append(parts + ((tap,),))
        found = [parts for parts in more if len(parts) <= 4]
    return [parts for parts in found if len(parts) == 4]


def claim_of_four(taps, parts):
    """The claim of one way to part the taps."""
    terms = [(lot, -1) for lot in parts]
    for one, other in combinations(list(parts[:3]), 2):
        terms.append((tuple(sorted((*one, *other))), 1))
    return made_plain(summed(taps, terms), "even")
