"""Deeds one by one: what they leave, and what they do to a net and to the options of each lot."""

from behindtaps.errors import BadDeeds
from behindtaps.flows import cuts, what_a_lot_lets
from behindtaps.lots import MOST_TAPS, is_name, plain_lot_in, plain_lots_in
from behindtaps.nets import FEWEST_TAPS_TO_LEAVE_ONE_OUT, beside, hidden_net, is_net, is_part, melted_net, names_unlike
from behindtaps.nets import places_in, places_of_part, renamed_part, scaled, small_net, sort_in
from behindtaps.numbers import is_less, is_number_from_0, plus, times

MOST_DEEDS = 20
SORTS_OF_PARTS = {"pipe": "pipes", "lead": "leads", "hub": "hubs"}


def taps_left(taps, deed):
    """The taps that any value leaves if it is a deed that fits the taps; None otherwise."""
    if not isinstance(deed, tuple) or len(deed) not in (2, 3):
        return None
    if len(deed) == 3:
        return taps_left_by_melting(taps, deed)
    word, told = deed
    if word == "lay" and is_part(told) and all([place in taps for place in places_of_part(told)]):
        return taps
    if word == "add" and is_name(told) and told not in taps and len(taps) < MOST_TAPS:
        return tuple(sorted([*taps, told]))
    if word == "hide" and told in taps and len(taps) >= FEWEST_TAPS_TO_LEAVE_ONE_OUT:
        return without_tap(taps, told)
    if word == "scale" and is_number_from_0(told):
        return taps
    if word == "beside" and is_net(told) and told[0] == taps:
        return taps
    return None


def taps_left_by_melting(taps, deed):
    """As taps_left, of what is surely a triple."""
    word, kept, gone = deed
    if word != "melt" or kept not in taps or gone not in taps or kept == gone:
        return None
    return without_tap(taps, gone) if len(taps) >= FEWEST_TAPS_TO_LEAVE_ONE_OUT else None


def without_tap(taps, tap):
    return tuple([other for other in taps if other != tap])


def taps_behind_all(taps, value):
    """The taps that any value leaves if it is deeds for the taps; None otherwise."""
    if not isinstance(value, (list, tuple)) or len(value) > MOST_DEEDS:
        return None
    left = taps
    for deed in value:
        left = taps_left(left, deed)
        if left is None:
            return None
    return left


def check_deeds(taps, deeds):
    if taps_behind_all(taps, deeds) is None:
        raise BadDeeds("deeds are a list of at most 20 deeds, each of which fits the taps that are left")


def check_deeds_of_sort(taps, deeds, sort):
    check_deeds(taps, deeds)
    if not all([is_deed_of_sort(deed, sort) for deed in deeds]):
        raise BadDeeds("all that the deeds lay is of the sort")


def is_deed_of_sort(deed, sort):
    """Whether what a deed lays, if anything, is of the sort."""
    if deed[0] == "lay":
        return SORTS_OF_PARTS[deed[1][0]] in (sort, "pipes")
    return deed[0] != "beside" or sort_in(deed[1]) in (sort, "pipes")


def net_behind(net, deed):
    """The net behind a deed that fits its taps."""
    word = deed[0]
    if word == "lay":
        return small_net(net[0], net[1] + (deed[1],))
    if word == "add":
        return net_with_tap(net, deed[1])
    if word == "melt":
        return melted_net(net, deed[1], deed[2])
    if word == "hide":
        return hidden_net(net, deed[1])
    return scaled(net, deed[1]) if word == "scale" else beside(net, deed[1])


def net_with_tap(net, name):
    """The net with one tap more; an inner place that has its name gets a new one."""
    places = places_in(net[0], net[1])
    parts = net[1]
    if name in places:
        names = {name: names_unlike(places, 1)[0]}
        parts = tuple([renamed_part(part, names) for part in parts])
    return small_net(tuple(sorted([*net[0], name])), parts)


def first_options(taps, sort):
    """The options ahead of all deeds: a dict from each lot to a dict from option lots to what is put to them."""
    found = {}
    for lot in plain_lots_in(taps, sort):
        found[lot] = {lot: 0}
    return found


def options_at(taps, sort, told, lot):
    """The options of some taps, in any order; of none and of all of them nothing alone."""
    if len(lot) in (0, len(taps)):
        return {(): 0}
    key = tuple(sorted(lot))
    return told[key if sort == "leads" else plain_lot_in(taps, key)]


def options_behind(taps, sort, told, deed):
    """The options behind a deed that fits the taps, of those before it."""
    left = taps_left(taps, deed)
    found = {}
    for lot in plain_lots_in(left, sort):
        if deed[0] == "add":
            found[lot] = options_at(taps, sort, told, without_tap(lot, deed[1]))
        elif deed[0] == "melt":
            found[lot] = options_at(taps, sort, told, (*lot, deed[2]) if deed[1] in lot else lot)
        elif deed[0] == "hide":
            found[lot] = lesser_options(options_at(taps, sort, told, lot),
                                        options_at(taps, sort, told, (*lot, deed[1])))
        elif deed[0] == "scale":
            found[lot] = options_times(told[lot], deed[1])
        else:
            found[lot] = options_with(told[lot], put_by(deed, lot))
    return found


def put_by(deed, lot):
    """What laying a part or a net puts to the wall of the lot."""
    if deed[0] == "beside":
        return what_a_lot_lets(deed[1], lot)
    return deed[1][-1] if cuts(lot, deed[1]) else 0


def lesser_options(one, other):
    """The options of both; of options with one lot the one to which less is put."""
    found = {}
    for told in (one, other):
        for lot, more in told.items():
            if lot not in found or is_less(more, found[lot]):
                found[lot] = more
    return found


def options_times(told, factor):
    """The options with all that is put to them multiplied."""
    found = {}
    for lot, more in told.items():
        found[lot] = times(more, factor)
    return found


def options_with(told, width):
    """The options with a width more."""
    found = {}
    for lot, more in told.items():
        found[lot] = plus(more, width)
    return found
