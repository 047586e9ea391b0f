"""Which walls must be measured so that all walls behind deeds are known."""

from behindtaps.alternatives import options_of, rows_of_options, value_at, walls_in_kinds
from behindtaps.claims import worth_by
from behindtaps.coverings import below_or_covered
from behindtaps.deedsteps import check_deeds_of_sort
from behindtaps.errors import BadNeeded
from behindtaps.kinds import check_reach, checks_of, multiples_of, net_of_kinds
from behindtaps.lots import check_sort, check_taps, plain_lots_in
from behindtaps.numbers import is_less, is_number, minus, plus, quotient, sum_of, sum_of_products, top_of, turned


def needs(taps, sort, deeds):
    """For each plain lot two nets that show that its wall is needed, or weights that show that it is not."""
    check_for_needs(taps, sort, deeds)
    factor, lists = options_of(taps, sort, deeds)
    known = walls_in_kinds(taps, sort)
    found = {}
    for lot in plain_lots_in(taps, sort):
        word, shown = need_of(factor, lists, known, lot)
        found[lot] = (word, shown) if word == "needless" else (word, *nets_apart(taps, sort, known, lot, shown))
    return found


def behind_needed(taps, sort, deeds, walls_told):
    """The table behind the deeds, of the walls of the needed lots alone."""
    check_for_needs(taps, sort, deeds)
    factor, lists = options_of(taps, sort, deeds)
    known = walls_in_kinds(taps, sort)
    needed = [lot for lot in plain_lots_in(taps, sort) if need_of(factor, lists, known, lot)[0] == "needed"]
    if not isinstance(walls_told, dict) or len(walls_told) != len(needed):
        raise BadNeeded("the walls of just the needed lots are told")
    if not all([lot in walls_told and is_number(walls_told[lot]) for lot in needed]):
        raise BadNeeded("the walls of the needed lots are told as numbers")
    found = {}
    for lot, choices in lists.items():
        told = [(own, more) for own, more in choices if own == () or own in needed]
        found[lot] = value_at(factor, told, walls_told)
    return found


def check_for_needs(taps, sort, deeds):
    """Checks taps, a sort, and deeds for them."""
    check_taps(taps)
    check_sort(sort)
    check_deeds_of_sort(taps, deeds, sort)
    check_reach(taps, sort)


def need_of(factor, lists, known, lot):
    """("needed", multiples) of kinds for which some option with this lot is the least one; or ("needless", papers)."""
    papers = {}
    for behind, choices in lists.items():
        places = [at for at, (own, _) in enumerate(choices) if own == lot]
        if len(places) == 0:
            continue
        at = places[0]
        rows = rows_of_options(factor, choices, known)
        word, shown = below_or_covered(rows[at], rows[:at] + rows[at + 1:])
        if word == "below":
            return ("needed", inner_point(rows[at], rows[:at] + rows[at + 1:], shown))
        papers[behind] = (*shown[:at], 0, *shown[at:])
    return ("needless", papers)


def inner_point(own, others, point):
    """Multiples, all above 0, for which a row is still less than each of the others, as it is at the point."""
    more = 1
    for other in others:
        beyond = [minus(entry, less) for entry, less in zip(other, own)]
        lost = turned(sum_of(beyond[:-1]))
        if top_of(lost) > 0:
            # Half of what would make both equal.
            limit = quotient(sum_of_products(beyond, [*point, 1]), plus(lost, lost))
            more = limit if is_less(limit, more) else more
    return [plus(entry, more) for entry in point]


def nets_apart(taps, sort, known, lot, multiples):
    """The net of these multiples of kinds, and another one whose wall of this lot alone is another one, a lesser one.

    With all multiples above 0 no check comes to 0, so the wall can become less before one does.
    """
    table = {}
    for key in plain_lots_in(taps, sort):
        table[key] = sum_of_products(multiples, known[key])
    least = None
    for check in checks_of(taps, sort):
        weight = dict(check[1]).get(lot, 0)
        if top_of(weight) > 0:
            less = quotient(worth_by(check, sort, table), weight)
            least = less if least is None or is_less(less, least) else least
    lowered = {key: told for key, told in table.items()}
    lowered[lot] = minus(table[lot], least)
    others = multiples_of(taps, sort, lowered)
    return (net_of_kinds(taps, sort, multiples), net_of_kinds(taps, sort, others))
