"""Stars: the small nets of pipes by which all others can be told."""

from itertools import combinations

from behindtaps.claims import check_claim, check_other, summed
from behindtaps.errors import BadNet, BadWidths, BadWorths
from behindtaps.flows import walls
from behindtaps.lots import check_taps, plain_lots_in
from behindtaps.nets import check_net, has_kind, names_unlike
from behindtaps.numbers import is_less, is_number, is_number_from_0, quotient, sum_of_products, top_of, turned
from behindtaps.systems import solution


def even_sets(taps):
    """The ascending list of the even sets of the taps."""
    check_taps(taps)
    return even_sets_in(taps)


def star_net(taps, widths):
    """A net whose parts are the stars of the widths that are not 0."""
    check_taps(taps)
    check_widths(taps, widths)
    parts = []
    evens = even_sets_in(taps)
    middles = names_unlike(taps, len(evens))
    for at, even in enumerate(evens):
        if widths.get(even, 0) != 0:
            parts.extend(star_parts(even, middles[at], widths[even]))
    return (taps, tuple(parts))


def star_shares(net):
    """The dict from each even set to its share, with which the walls of the stars come to those of the net."""
    check_net(net)
    if has_kind(net[1], "lead"):
        raise BadNet("a net with a lead has no shares")
    evens = even_sets_in(net[0])
    rows = [([wall_in_star(even, lot) for even in evens], told) for lot, told in walls(net).items()]
    return told_by(evens, solution(rows))


def star_worths(claim):
    """The dict from each even set to what the claim is worth in its star of the width 1."""
    check_claim(claim)
    evens = even_sets_in(claim[0])
    return told_by(evens, worths_in_stars(claim, evens))


def claim_by_stars(taps, worths):
    """The plain claim that has these worths in the stars of the width 1."""
    check_taps(taps)
    check_worths(taps, worths)
    plain = plain_lots_in(taps, "pipes")
    rows = [([wall_in_star(even, lot) for lot in plain], worths[even]) for even in even_sets_in(taps)]
    return summed(taps, list(zip(plain, solution(rows))))


def parting_stars(claim, other):
    """Widths of one or two stars with which just one of the claims holds; None if there are none."""
    check_claim(claim)
    check_other(claim, other)
    evens = even_sets_in(claim[0])
    some = told_by(evens, worths_in_stars(claim, evens))
    others = told_by(evens, worths_in_stars(other, evens))
    for even in evens:
        if (top_of(some[even]) < 0) != (top_of(others[even]) < 0):
            return {even: 1}
    below = [even for even in evens if top_of(some[even]) < 0]
    from_0 = [even for even in evens if top_of(some[even]) >= 0]
    return parting_pair(some, others, from_0, below)


def even_sets_in(taps):
    """As even_sets, of what are surely taps."""
    return sorted([even for many in range(2, len(taps) + 1, 2) for even in combinations(list(taps), many)])


def check_widths(taps, widths):
    evens = even_sets_in(taps)
    if not isinstance(widths, dict) or not all([even in evens for even in widths]):
        raise BadWidths("widths is a dict from even sets of the taps")
    if not all([is_number_from_0(width) for width in widths.values()]):
        raise BadWidths("widths are numbers from 0 on")


def check_worths(taps, worths):
    evens = even_sets_in(taps)
    if not isinstance(worths, dict) or len(worths) != len(evens) or not all([even in worths for even in evens]):
        raise BadWorths("worths is a dict from just the even sets of the taps")
    if not all([is_number(worth) for worth in worths.values()]):
        raise BadWorths("worths are numbers")


def star_parts(even, middle, width):
    """The parts of the star of an even set, with this inner place if it needs one."""
    if len(even) == 2:
        return [("pipe", even[0], even[1], width)]
    ends = [sorted([tap, middle]) for tap in even]
    return [("pipe", start, end, width) for start, end in ends]


def wall_in_star(even, lot):
    """The wall of the lot in the star of the width 1."""
    inside = len([tap for tap in even if tap in lot])
    return min(inside, len(even) - inside)


def worths_in_stars(claim, evens):
    """The list of what the claim is worth in the stars of the width 1 of these even sets."""
    weights = [weight for _, weight in claim[1]]
    return [sum_of_products(weights, [wall_in_star(even, lot) for lot, _ in claim[1]]) for even in evens]


def told_by(evens, values):
    """The dict from each even set to the value in its place."""
    told = {}
    for even, value in zip(evens, values):
        told[even] = value
    return told


def parting_pair(some, others, from_0, below):
    """Widths of two stars, one at which both claims are worth 0 or more and one at which both are worth less.

    With the width 1 of the first star, a claim holds up to a width of the second one that is the
    share of its two worths. Where both claims have one such share for all pairs, nothing parts them.
    """
    for even in from_0:
        for low in below:
            share = quotient(some[even], turned(some[low]))
            other_share = quotient(others[even], turned(others[low]))
            if share != other_share:
                widths = {even: 1, low: other_share if is_less(share, other_share) else share}
                return {key: widths[key] for key in sorted([even, low])}
    return None
