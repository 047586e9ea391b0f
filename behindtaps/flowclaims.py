"""Claims about flows between lots with idle taps."""

from behindtaps.claims import greater_terms, lesser_terms
from behindtaps.contests import paper_or_net
from behindtaps.errors import BadFlowClaim, BadNet, BadStanding, TooMany
from behindtaps.flows import greatest_amount
from behindtaps.frames import check_directions, is_paper_of
from behindtaps.lots import are_taps, check_sort, is_lot
from behindtaps.nets import is_net
from behindtaps.numbers import is_number, sum_of_products

MOST_STANDINGS = 64


def is_flow_claim(value):
    """Whether any value is a flow claim."""
    if not isinstance(value, tuple) or len(value) != 2 or not are_taps(value[0]) or not isinstance(value[1], tuple):
        return False
    taps, terms = value
    if not all([is_flow_term(taps, term) for term in terms]):
        return False
    return all([one[0] < other[0] for one, other in zip(terms, terms[1:])])


def flow_worth(claim, net):
    """What the flow claim is worth in the net."""
    check_flow_claim(claim)
    if not is_net(net) or net[0] != claim[0]:
        raise BadNet("it is a net with the taps of the flow claim")
    flows = [greatest_amount(net, first, second) for (first, second), _ in claim[1]]
    return sum_of_products([weight for _, weight in claim[1]], flows)


def standings(claim):
    """The ascending list of all standings of the flow claim."""
    check_flow_claim(claim)
    return standings_of(claim)


def is_flow_paper(claim, sort, standing, value):
    """Whether any value is a paper for the standing of the flow claim."""
    check_flow_claim(claim)
    check_sort(sort)
    if not is_standing(claim, standing):
        raise BadStanding("a standing has for each greater term its first lot and some of the taps idle there")
    return is_paper_of(frame_of_standing(claim, sort, standing), flow_targets(claim), value)


def flow_verdict(claim, sort):
    """A paper for each standing, or a net of the sort that breaks the flow claim."""
    check_flow_claim(claim)
    check_sort(sort)
    check_directions(greater_terms(claim), sort)
    papers = []
    for standing in standings_of(claim):
        word, shown = paper_or_net(frame_of_standing(claim, sort, standing), flow_targets(claim))
        if word == "breaks":
            return (word, shown)
        papers.append(shown)
    return ("holds", tuple(papers))


def is_flow_term(taps, value):
    """Whether any value is a pair of two lots without a common tap and a number that is not 0."""
    if not isinstance(value, tuple) or len(value) != 2 or not is_number(value[1]) or value[1] == 0:
        return False
    blocks = value[0]
    if not isinstance(blocks, tuple) or len(blocks) != 2 or not all([is_lot(taps, lot) for lot in blocks]):
        return False
    return not any([tap in blocks[1] for tap in blocks[0]])


def check_flow_claim(claim):
    if not is_flow_claim(claim):
        raise BadFlowClaim("a flow claim is a pair of taps and ascending terms, each of two lots and a weight")


def standings_of(claim):
    """As standings, of what is surely a flow claim."""
    choices = [stands_of(claim[0], blocks) for blocks, _ in greater_terms(claim)]
    many = 1
    for lots in choices:
        many *= len(lots)
    if many > MOST_STANDINGS:
        raise TooMany(MOST_STANDINGS)
    found = [()]
    for lots in choices:
        found = [standing + (lot,) for standing in found for lot in lots]
    return found


def stands_of(taps, blocks):
    """The ascending list of the lots with all taps of the first block and none of the second."""
    first, second = blocks
    found = [()]
    for tap in taps:
        if tap in first:
            found = [lot + (tap,) for lot in found]
        elif tap not in second:
            found = found + [lot + (tap,) for lot in found]
    return sorted(found)


def is_standing(claim, value):
    """Whether any value is a standing of the flow claim."""
    terms = greater_terms(claim)
    if not isinstance(value, tuple) or len(value) != len(terms):
        return False
    return all([lot in stands_of(claim[0], blocks) for lot, (blocks, _) in zip(value, terms)])


def frame_of_standing(claim, sort, standing):
    """The frame whose directions have the lots of the standing, if they are not too many."""
    directions = tuple([(lot, weight) for lot, (_, weight) in zip(standing, greater_terms(claim))])
    check_directions(directions, sort)
    return (claim[0], sort, directions)


def flow_targets(claim):
    """What a paper has numbers for: the lesser terms."""
    return [(first, second, weight) for (first, second), weight in lesser_terms(claim)]
