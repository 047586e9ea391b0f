"""Deeds, which change a net at its taps alone, and what they do as it is seen from its taps."""

from behindtaps.alternatives import is_mean_at_most, options_of, rows_of_options, value_at, walls_in_kinds
from behindtaps.claims import is_table_for
from behindtaps.coverings import below_or_covered
from behindtaps.deedsteps import check_deeds, check_deeds_of_sort, is_deed_of_sort, net_behind, taps_behind_all
from behindtaps.errors import BadDeeds, BadTable
from behindtaps.kinds import check_reach, check_table, net_of_kinds
from behindtaps.lots import SORTS, check_sort, check_taps, plain_lots_in
from behindtaps.nets import check_net, sort_in


def is_deeds(taps, value):
    """Whether any value is deeds for the taps."""
    check_taps(taps)
    return taps_behind_all(taps, value) is not None


def are_of_sort(taps, deeds, sort):
    """Whether all that the deeds lay is of the sort."""
    check_taps(taps)
    check_deeds(taps, deeds)
    check_sort(sort)
    return all([is_deed_of_sort(deed, sort) for deed in deeds])


def taps_behind(taps, deeds):
    """The taps that the last deed leaves."""
    check_taps(taps)
    check_deeds(taps, deeds)
    return taps_behind_all(taps, deeds)


def done(net, deeds):
    """The net that comes of it when all deeds are done in order."""
    check_net(net)
    check_deeds(net[0], deeds)
    if not any([is_one_sort(net, deeds, sort) for sort in SORTS]):
        raise BadDeeds("there is a sort of which both the net and the deeds are")
    for deed in deeds:
        net = net_behind(net, deed)
    return net


def outside(taps, sort, table, deeds):
    """The taps and the table behind the deeds."""
    check_table(taps, sort, table)
    check_deeds_of_sort(taps, deeds, sort)
    factor, lists = options_of(taps, sort, deeds)
    found = {}
    for lot, choices in lists.items():
        found[lot] = value_at(factor, choices, table)
    return (taps_behind_all(taps, deeds), found)


def first_unlike(taps, sort, table, other):
    """The first lot at which two tables are unlike, or None."""
    check_table(taps, sort, table)
    if not is_table_for(taps, sort, other):
        raise BadTable("the other one is a table, too")
    for lot in plain_lots_in(taps, sort):
        if table[lot] != other[lot]:
            return lot
    return None


def options(taps, sort, deeds):
    """The factor of all deeds, and the options of each lot behind them."""
    check_taps(taps)
    check_sort(sort)
    check_deeds_of_sort(taps, deeds, sort)
    return options_of(taps, sort, deeds)


def deeds_verdict(taps, sort, deeds, others):
    """Papers, which show that deeds and others do the same to all nets of the sort, or a net that tells them apart."""
    check_two_deeds(taps, sort, deeds, others)
    known = walls_in_kinds(taps, sort)
    own = rows_behind(taps, sort, deeds, known)
    told = rows_behind(taps, sort, others, known)
    papers = {}
    for lot in own:
        sides = []
        for some, rows in ((told[lot], own[lot]), (own[lot], told[lot])):
            weights = []
            for row in some:
                word, shown = below_or_covered(row, rows)
                if word == "below":
                    return ("unlike", net_of_kinds(taps, sort, shown))
                weights.append(shown)
            sides.append(tuple(weights))
        papers[lot] = tuple(sides)
    return ("alike", papers)


def is_alike_paper(taps, sort, deeds, others, value):
    """Whether any value is papers which show that deeds and others do the same."""
    check_two_deeds(taps, sort, deeds, others)
    known = walls_in_kinds(taps, sort)
    own = rows_behind(taps, sort, deeds, known)
    told = rows_behind(taps, sort, others, known)
    if not isinstance(value, dict) or len(value) != len(own) or not all([lot in value for lot in own]):
        return False
    return all([are_papers_of_lot(value[lot], own[lot], told[lot]) for lot in own])


def is_one_sort(net, deeds, sort):
    """Whether the net and the deeds are of the sort."""
    return sort_in(net) in (sort, "pipes") and all([is_deed_of_sort(deed, sort) for deed in deeds])


def check_two_deeds(taps, sort, deeds, others):
    """Checks the parameters of deeds_verdict."""
    check_taps(taps)
    check_sort(sort)
    check_deeds_of_sort(taps, deeds, sort)
    check_deeds_of_sort(taps, others, sort)
    if taps_behind_all(taps, deeds) != taps_behind_all(taps, others):
        raise BadDeeds("the others leave the same taps")
    check_reach(taps, sort)


def rows_behind(taps, sort, deeds, known):
    """The dict from each lot behind deeds to the rows of its options."""
    factor, lists = options_of(taps, sort, deeds)
    found = {}
    for lot, choices in lists.items():
        found[lot] = rows_of_options(factor, choices, known)
    return found


def are_papers_of_lot(value, own, told):
    """Whether any value is a pair of weights for each option of one side among those of the other."""
    if not isinstance(value, tuple) or len(value) != 2:
        return False
    return are_weights_for(value[0], told, own) and are_weights_for(value[1], own, told)


def are_weights_for(value, some, rows):
    """Whether any value is, for each of some rows, weights for the rows by which these are nowhere above it."""
    if not isinstance(value, tuple) or len(value) != len(some):
        return False
    return all([is_mean_at_most(weights, rows, row) for weights, row in zip(value, some)])
