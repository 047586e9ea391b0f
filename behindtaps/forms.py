"""Forms: the one way in which a net with few taps is, seen from its taps, made of kinds."""

from itertools import combinations

from behindtaps.errors import BadForm, BadNet, BadNumber, BadPlaces, BadSort
from behindtaps.flows import all_plain, what_a_lot_lets
from behindtaps.kinds import REACH, check_reach, check_table, failed_by, kinds_of, net_of_kinds, pairs_of, wall_in_kind
from behindtaps.lots import are_taps, check_taps, plain_lot_in, plain_lots_in
from behindtaps.nets import FEWEST_TAPS_TO_LEAVE_ONE_OUT, check_net, has_kind, sort_in
from behindtaps.numbers import is_less, is_number_from_0, minus, plus, sum_of, sum_of_products, times, top_of
from behindtaps.numbers import turned

HALF = (1, 2)
THIRD = (1, 3)
QUARTER = (1, 4)


def is_form(value):
    """Whether any value is a form."""
    if not isinstance(value, dict):
        return False
    taps = taps_of_form(value)
    if not are_taps(taps) or len(taps) > REACH["pipes"]:
        return False
    keys = keys_of_form(taps, "hub" in value)
    if len(value) != len(keys) or not all([key in value and is_number_from_0(value[key]) for key in keys]):
        return False
    return is_one_form(taps, value)


def form_of_net(net):
    """The form of the net."""
    check_net_without_leads(net)
    sort = sort_in(net)
    check_reach(net[0], sort)
    return form_of(net[0], sort, all_plain(net))


def form_of_table(taps, sort, table):
    """The form of all nets with this table, or the first check that the table fails."""
    check_taps(taps)
    if sort == "leads":
        raise BadSort("nets with leads have no form")
    check_table(taps, sort, table)
    check_reach(taps, sort)
    failed = failed_by(taps, sort, table)
    if failed is not None:
        return ("fails", failed)
    return ("form", form_of(taps, sort, table))


def table_of_form(form):
    """The table of all nets with this form."""
    check_form(form)
    return table_of(form)


def net_of_form(form):
    """A net with this form."""
    check_form(form)
    taps = taps_of_form(form)
    return net_of_kinds(taps, sort_of_form(form), [form[key] for key in keys_of_form(taps, "hub" in form)])


def sum_of_forms(one, other):
    """The form of a net with one form beside one with the other."""
    check_form(one)
    check_form(other)
    if not all([key in one for key in other]) or len(one) != len(other):
        raise BadForm("the other form has the same keys")
    some = table_of(one)
    others = table_of(other)
    table = {}
    for lot, told in some.items():
        table[lot] = plus(told, others[lot])
    return form_of(taps_of_form(one), sort_of_form(one), table)


def form_times(form, factor):
    """The form with all numbers multiplied by the factor."""
    check_form(form)
    if not is_number_from_0(factor):
        raise BadNumber("a factor is a number from 0 on")
    found = {}
    for key in keys_of_form(taps_of_form(form), "hub" in form):
        found[key] = times(form[key], factor)
    return found


def melted_form(form, kept, gone):
    """The form of a net with this form when the tap kept stands for the tap gone, too."""
    check_form(form)
    check_tap_of_form(form, kept)
    check_tap_of_form(form, gone)
    if kept == gone:
        raise BadPlaces("the taps kept and gone are unlike")
    taps = taps_of_form(form)
    table = table_of(form)
    left = tuple([tap for tap in taps if tap != gone])
    found = {}
    for lot in plain_lots_in(left, "pipes"):
        found[lot] = told_at(taps, table, (*lot, gone) if kept in lot else lot)
    return form_of(left, "pipes", found)


def hidden_form(form, tap):
    """The form of a net with this form when the tap is a tap no more."""
    check_form(form)
    check_tap_of_form(form, tap)
    taps = taps_of_form(form)
    table = table_of(form)
    left = tuple([other for other in taps if other != tap])
    found = {}
    for lot in plain_lots_in(left, "pipes"):
        without = told_at(taps, table, lot)
        together = told_at(taps, table, (*lot, tap))
        found[lot] = together if is_less(together, without) else without
    return form_of(left, "pipes", found)


def straight(net):
    """The net of pipes between taps alone with the same walls, or the first lot that shows that there is none."""
    check_net_without_leads(net)
    taps = net[0]
    table = all_plain(net)
    parts = []
    for one, other in pairs_of(taps):
        width = between(taps, table, (one, other))
        if width != 0:
            parts.append(("pipe", one, other, width))
    plain = (taps, tuple(parts))
    for lot, told in table.items():
        if what_a_lot_lets(plain, lot) != told:
            return ("bent", lot)
    return ("straight", plain)


def taps_of_form(value):
    """The tuple of all names, ascending, in the keys of a dict that are pairs of strings."""
    names = []
    for key in value:
        if isinstance(key, tuple) and len(key) == 2 and all([isinstance(name, str) for name in key]):
            names.extend(key)
    return tuple(sorted(set(names)))


def keys_of_form(taps, has_hub):
    """The list of the keys of a form, in order, which is that of the kinds."""
    keys = pairs_of(taps)
    if len(taps) == 4:
        keys.append("cross")
    if has_hub:
        keys.append("hub")
    if len(taps) == 5:
        keys.extend(list(combinations(list(taps), 4)))
        keys.extend([(tap,) for tap in taps])
    return keys


def is_one_form(taps, value):
    """Whether those numbers are 0 that must be so that there is one form alone."""
    if "hub" in value:
        return len(taps) == 4 and (value["cross"] == 0 or value["hub"] == 0)
    if len(taps) < 5:
        return True
    middles = [tap for tap in taps if value[(tap,)] != 0]
    return len(middles) == 0 or (len(middles) == 1 and value[others_of(taps, middles[0])] == 0)


def others_of(taps, tap):
    return tuple([other for other in taps if other != tap])


def check_form(form):
    if not is_form(form):
        raise BadForm("a form is a dict from pairs of taps and what else it has to numbers from 0 on")


def check_net_without_leads(net):
    check_net(net)
    if has_kind(net[1], "lead"):
        raise BadNet("a net with a lead has no form")


def check_tap_of_form(form, tap):
    """Checks that it is a tap of the form, which can do without it."""
    taps = taps_of_form(form)
    if tap not in taps or len(taps) < FEWEST_TAPS_TO_LEAVE_ONE_OUT:
        raise BadPlaces("it is a tap of the form, which has three taps at least")


def sort_of_form(form):
    return "hubs" if "hub" in form else "pipes"


def table_of(form):
    """As table_of_form, of what is surely a form."""
    taps = taps_of_form(form)
    every = kinds_of(taps, sort_of_form(form))
    multiples = [form[key] for key in keys_of_form(taps, "hub" in form)]
    table = {}
    for lot in plain_lots_in(taps, "pipes"):
        table[lot] = sum_of_products(multiples, [wall_in_kind(kind, lot) for kind in every])
    return table


def told_at(taps, table, lot):
    """What the table tells of some taps in any order, 0 for none and for all of them."""
    if len(lot) in (0, len(taps)):
        return 0
    return table[plain_lot_in(taps, tuple(sorted(lot)))]


def between(taps, table, pair):
    """Half of what the walls of both taps alone come to beyond that of the pair."""
    alone = plus(told_at(taps, table, pair[:1]), told_at(taps, table, pair[1:]))
    return times(HALF, minus(alone, told_at(taps, table, pair)))


def form_of(taps, sort, table):
    """The form of a table that is that of a net of the sort."""
    form = {}
    for pair in pairs_of(taps):
        form[pair] = between(taps, table, pair)
    if len(taps) == 4:
        put_cross(taps, sort, table, form)
    if len(taps) == 5:
        put_stars(taps, table, form)
    return form


def put_cross(taps, sort, table, form):
    """Puts in the cross of four taps, for hubs also the hub, half of which goes off each pair."""
    more = minus(sum_of([told_at(taps, table, (taps[0], tap)) for tap in taps[1:]]),
                 sum_of([told_at(taps, table, (tap,)) for tap in taps]))
    form["cross"] = times(HALF, more) if top_of(more) > 0 else 0
    if sort != "hubs":
        return
    form["hub"] = turned(more) if top_of(more) < 0 else 0
    for pair in pairs_of(taps):
        form[pair] = minus(form[pair], times(HALF, form["hub"]))


def put_stars(taps, table, form):
    """Puts in the crosses and the stars of five taps."""
    told = shares_of_taps(taps, table)
    below = [tap for tap in taps if top_of(told[tap]) < 0]
    for four in combinations(list(taps), 4):
        tap = [other for other in taps if other not in four][0]
        share = told[tap]
        if len(below) > 0:
            share = 0 if tap in below else plus(share, told[below[0]])
        form[four] = times(HALF, share)
    for tap in taps:
        form[(tap,)] = turned(told[tap]) if tap in below else 0


def shares_of_taps(taps, table):
    """The number of each of five taps such that those of two come to what is told beyond their pair."""
    beyond = {}
    for pair in pairs_of(taps):
        beyond[pair] = beyond_pair(taps, table, pair)
    total = times(QUARTER, sum_of(list(beyond.values())))
    found = {}
    for tap in taps:
        own = sum_of([more for pair, more in beyond.items() if tap in pair])
        found[tap] = times(THIRD, minus(own, total))
    return found


def beyond_pair(taps, table, pair):
    """The worth of the check of five taps for this pair."""
    others = [tap for tap in taps if tap not in pair]
    pairs = sum_of([told_at(taps, table, other_pair) for other_pair in pairs_of(others)])
    alone = sum_of([told_at(taps, table, (tap,)) for tap in others])
    return minus(minus(pairs, told_at(taps, table, pair)), alone)
