"""Claims: weighted sums of walls that are not below 0."""

from math import gcd, lcm

from behindtaps.errors import BadClaim, BadClaims, BadNet, BadNumber, BadPlaces, BadTable, BadTaps, BadTerms
from behindtaps.errors import Parted, TooMany
from behindtaps.flows import wall
from behindtaps.inequalities import lowest
from behindtaps.lots import MOST_TAPS, are_taps, check_sort, check_taps, is_lot, is_name, plain_lot_in, plain_lots_in
from behindtaps.nets import FEWEST_TAPS_TO_LEAVE_ONE_OUT, is_net
from behindtaps.numbers import are_numbers_from_0, bottom_of, divided, is_number, plus, sum_of_products, times
from behindtaps.numbers import top_of, turned

MOST_CLAIMS = 20


def is_claim(value):
    """Whether any value is a claim."""
    if not isinstance(value, tuple) or len(value) != 2 or not are_taps(value[0]):
        return False
    return are_claim_terms(value[0], value[1])


def claim_of(taps, terms):
    """The claim in which each lot has the sum of its numbers as its weight."""
    check_taps(taps)
    if not isinstance(terms, (list, tuple)) or not all([is_term(taps, term) for term in terms]):
        raise BadTerms("terms are a list of pairs of a lot of the taps and a number")
    return summed(taps, terms)


def greater(claim):
    """The terms with weights above 0."""
    check_claim(claim)
    return greater_terms(claim)


def lesser(claim):
    """The terms with weights below 0, their signs turned."""
    check_claim(claim)
    return lesser_terms(claim)


def plain_form(claim, sort):
    """The claim with the plain lot in the place of each lot."""
    check_claim(claim)
    check_sort(sort)
    return plain_in(claim, sort)


def whole_form(claim, sort):
    """The plain form, multiplied so that its weights are wholes without a common divisor."""
    check_claim(claim)
    check_sort(sort)
    return whole_in(claim, sort)


def alike_claims(claim, other, sort):
    """Whether both claims have one whole form."""
    check_claim(claim)
    check_other(claim, other)
    check_sort(sort)
    return whole_in(claim, sort) == whole_in(other, sort)


def claim_worth(claim, net):
    """What the claim is worth in the net."""
    check_claim(claim)
    check_net_of(claim, net)
    return worth_in(claim, net)


def holds(claim, net):
    """Whether the claim is not worth less than 0 in the net."""
    check_claim(claim)
    check_net_of(claim, net)
    return top_of(worth_in(claim, net)) >= 0


def table_worth(claim, sort, table):
    """What the claim is worth if walls are as the table tells."""
    check_claim(claim)
    check_sort(sort)
    if not is_table_for(claim[0], sort, table):
        raise BadTable("a table is a dict from just the plain lots to numbers")
    return worth_by(claim, sort, table)


def added(claim, other):
    """The claim with the sum of both weights at each lot."""
    check_claim(claim)
    check_other(claim, other)
    return summed(claim[0], claim[1] + other[1])


def multiplied(claim, factor):
    """The claim with all weights multiplied by the factor."""
    check_claim(claim)
    if not is_number(factor):
        raise BadNumber("a factor is a number")
    return summed(claim[0], [(lot, times(weight, factor)) for lot, weight in claim[1]])


def renamed_claim(claim, names):
    """The claim with other names for all its taps, all exchanged at once."""
    check_claim(claim)
    check_new_taps(claim[0], names)
    return claim_with_lots(sorted([names[tap] for tap in claim[0]]),
                           [[names[tap] for tap in lot] for lot, _ in claim[1]], claim[1])


def sum_or_table(claims, claim, sort):
    """Weights with which the claims add up to the claim, or a table that keeps them and breaks it."""
    check_sum(claims, claim, sort)
    keys = plain_lots_in(claim[0], sort)
    rows = [(weights_at(plain_in(given, sort), keys), 0) for given in claims]
    told = lowest(rows, weights_at(plain_in(claim, sort), keys))
    if told[0] == "least":
        return ("sum", told[3])
    table = {}
    for lot, worth in zip(keys, told[2]):
        table[lot] = worth
    return ("table", table)


def is_sum_or_table(claims, claim, sort, value):
    """Whether any value is an answer as sum_or_table gives it."""
    check_sum(claims, claim, sort)
    if not isinstance(value, tuple) or len(value) != 2:
        return False
    word, shown = value
    if word == "sum":
        return are_numbers_from_0(shown, len(claims)) and is_sum(claims, shown, claim, sort)
    return word == "table" and is_table_for(claim[0], sort, shown) and is_parted_by(claims, claim, sort, shown)


def opened_claim(claim, one, new):
    """The claim with the tap new besides, which is in each lot that has the tap one."""
    check_claim(claim)
    check_tap_of(claim, one)
    if not is_name(new) or new in claim[0]:
        raise BadPlaces("new is a name that is no tap of the claim")
    if len(claim[0]) >= MOST_TAPS:
        raise TooMany(MOST_TAPS)
    return claim_with_lots([*claim[0], new], [[*lot, new] if one in lot else lot for lot, _ in claim[1]], claim[1])


def melted_claim(claim, one, other):
    """The claim without the tap other, which is left out of all lots."""
    check_claim(claim)
    check_tap_of(claim, one)
    check_tap_of(claim, other)
    if one == other or len(claim[0]) < FEWEST_TAPS_TO_LEAVE_ONE_OUT:
        raise BadPlaces("one and other are unlike taps of the claim, which has three taps at least")
    for lot, _ in claim[1]:
        if (one in lot) != (other in lot):
            raise Parted(lot)
    return claim_with_lots([tap for tap in claim[0] if tap != other],
                           [[tap for tap in lot if tap != other] for lot, _ in claim[1]], claim[1])


def is_term(taps, value):
    """Whether any value is a pair of a lot of the taps and a number."""
    return isinstance(value, tuple) and len(value) == 2 and is_lot(taps, value[0]) and is_number(value[1])


def are_claim_terms(taps, value):
    """Whether any value is the terms of a claim with these taps."""
    if not isinstance(value, tuple) or not all([is_term(taps, term) and term[1] != 0 for term in value]):
        return False
    return all([one[0] < other[0] for one, other in zip(value, value[1:])])


def check_claim(claim):
    if not is_claim(claim):
        raise BadClaim("a claim is a pair of taps and ascending terms")


def check_other(claim, other):
    if not is_claim(other) or other[0] != claim[0]:
        raise BadClaim("the other one is a claim with the same taps")


def check_net_of(claim, net):
    if not is_net(net) or net[0] != claim[0]:
        raise BadNet("it is a net with the taps of the claim")


def check_tap_of(claim, tap):
    if not isinstance(tap, str) or tap not in claim[0]:
        raise BadPlaces("it is a tap of the claim")


def check_new_taps(taps, names):
    """Checks that names gives unlike names to just these taps."""
    if not isinstance(names, dict) or len(names) != len(taps) or not all([tap in names for tap in taps]):
        raise BadTaps("names is a dict from just the taps of the claim")
    if not all([is_name(name) for name in names.values()]) or len(set(list(names.values()))) != len(taps):
        raise BadTaps("the taps get unlike names")


def check_sum(claims, claim, sort):
    """Checks the parameters of sum_or_table."""
    if not isinstance(claims, (list, tuple)) or len(claims) > MOST_CLAIMS:
        raise BadClaims("claims are a list of at most 20 claims")
    if not all([is_claim(given) for given in claims]) or not all([given[0] == claims[0][0] for given in claims]):
        raise BadClaims("claims are claims with the same taps")
    check_claim(claim)
    if len(claims) > 0 and claims[0][0] != claim[0]:
        raise BadClaim("the claim has the taps of the claims")
    check_sort(sort)


def is_table_for(taps, sort, value):
    """Whether any value is a table for these taps and this sort."""
    keys = plain_lots_in(taps, sort)
    if not isinstance(value, dict) or len(value) != len(keys):
        return False
    return all([lot in value and is_number(value[lot]) for lot in keys])


def summed(taps, terms):
    """The claim of terms that may come in any order and have a lot more than once."""
    found = {}
    for lot, weight in terms:
        found[lot] = plus(found.get(lot, 0), weight)
    return (taps, tuple([(lot, found[lot]) for lot in sorted(found) if found[lot] != 0]))


def greater_terms(claim):
    """As greater, of what is surely a claim."""
    return tuple([(lot, weight) for lot, weight in claim[1] if top_of(weight) > 0])


def lesser_terms(claim):
    """As lesser, of what is surely a claim."""
    return tuple([(lot, turned(weight)) for lot, weight in claim[1] if top_of(weight) < 0])


def plain_in(claim, sort):
    """As plain_form, of what are surely a claim and a sort."""
    if sort == "leads":
        return claim
    return summed(claim[0], [(plain_lot_in(claim[0], lot), weight) for lot, weight in claim[1]])


def whole_in(claim, sort):
    """As whole_form, of what are surely a claim and a sort."""
    taps, terms = plain_in(claim, sort)
    tops = 0
    bottoms = 1
    for _, weight in terms:
        tops = gcd(tops, top_of(weight))
        bottoms = lcm(bottoms, bottom_of(weight))
    return (taps, tuple([(lot, times(weight, divided(bottoms, tops))) for lot, weight in terms]))


def claim_with_lots(taps, lots, terms):
    """The claim of these taps and, in the place of the lots of terms, lots, all of them in any order."""
    return summed(tuple(sorted(taps)), [(tuple(sorted(lot)), term[1]) for lot, term in zip(lots, terms)])


def worth_in(claim, net):
    """As claim_worth, of what are surely a claim and a net with its taps."""
    return sum_of_products([weight for _, weight in claim[1]], [wall(net, lot) for lot, _ in claim[1]])


def worth_by(claim, sort, table):
    """As table_worth, of what are surely a claim, a sort and a table."""
    terms = plain_in(claim, sort)[1]
    return sum_of_products([weight for _, weight in terms], [table[lot] for lot, _ in terms])


def weights_at(claim, lots):
    """The tuple of the weights of the claim at these lots, 0 where it has none."""
    told = dict(claim[1])
    return tuple([told.get(lot, 0) for lot in lots])


def is_sum(claims, weights, claim, sort):
    """Whether the plain forms of the claims, each one times its weight, come to that of the claim."""
    terms = []
    for given, share in zip(claims, weights):
        terms.extend([(lot, times(weight, share)) for lot, weight in plain_in(given, sort)[1]])
    return summed(claim[0], terms) == plain_in(claim, sort)


def is_parted_by(claims, claim, sort, table):
    """Whether the table keeps all the claims and breaks the claim."""
    if any([top_of(worth_by(given, sort, table)) < 0 for given in claims]):
        return False
    return top_of(worth_by(claim, sort, table)) < 0
