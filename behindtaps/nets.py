"""Nets: taps and parts, and nets made of nets."""

from behindtaps.errors import BadNet, BadNumber, BadPlaces, TooMany
from behindtaps.lots import are_names, are_taps, check_sort, is_name
from behindtaps.numbers import is_number_from_0, times

MOST_PARTS = 200
MOST_PLACES = 40
FEWEST_TAPS_TO_LEAVE_ONE_OUT = 3


def is_net(value):
    """Whether any value is a net."""
    if not isinstance(value, tuple) or len(value) != 2:
        return False
    taps, parts = value
    if not are_taps(taps) or not isinstance(parts, tuple) or len(parts) > MOST_PARTS:
        return False
    if not all([is_part(part) for part in parts]) or mixes_leads_and_hubs(parts):
        return False
    return len(places_in(taps, parts)) <= MOST_PLACES


def sort_of(net):
    """The sort of the net."""
    check_net(net)
    return sort_in(net)


def is_of_sort(net, sort):
    """Whether the net is of this sort: it is its own, or the net has pipes alone."""
    check_net(net)
    check_sort(sort)
    return sort_in(net) in (sort, "pipes")


def places_of(net):
    """The ascending list of the places of the net."""
    check_net(net)
    return places_in(net[0], net[1])


def inner_of(net):
    """The ascending list of the places of the net that are no taps."""
    check_net(net)
    return inner_in(net)


def beside(first, second):
    """The net in which both nets are joined at their taps alone."""
    check_net(first)
    check_net(second)
    if first[0] != second[0] or mixes_leads_and_hubs(first[1] + second[1]):
        raise BadNet("the second net has other taps, or one net has a lead and the other a hub")
    names = names_beside(first, second)
    return small_net(first[0], first[1] + tuple([renamed_part(part, names) for part in second[1]]))


def scaled(net, factor):
    """The net with each width multiplied by the factor."""
    check_net(net)
    if not is_number_from_0(factor):
        raise BadNumber("a factor is a number from 0 on")
    return (net[0], tuple([part[:-1] + (times(part[-1], factor),) for part in net[1]]))


def renamed_net(net, names):
    """The net with inner places under new names, all exchanged at once."""
    check_net(net)
    check_new_names(net, names)
    return (net[0], tuple([renamed_part(part, names) for part in net[1]]))


def without_empty(net):
    """The net without the parts of width 0."""
    check_net(net)
    return (net[0], tuple([part for part in net[1] if part[-1] != 0]))


def turned_net(net):
    """The net with each lead the other way round."""
    check_net(net)
    return (net[0], tuple([turned_part(part) for part in net[1]]))


def melted_net(net, kept, gone):
    """The net without the tap gone, for which the tap kept stands in all parts."""
    check_net(net)
    check_tap_left(net, kept)
    check_tap_left(net, gone)
    if kept == gone:
        raise BadPlaces("the taps kept and gone are unlike")
    parts = [renamed_part(part, {gone: kept}) for part in net[1]]
    return (taps_without(net, gone), tuple([part for part in parts if joins_places(part)]))


def hidden_net(net, tap):
    """The net with the same parts in which the tap is a tap no more."""
    check_net(net)
    check_tap_left(net, tap)
    return (taps_without(net, tap), net[1])


def as_leads(net):
    """The net with two leads in the place of each pipe, one each way."""
    check_net(net)
    if has_kind(net[1], "hub"):
        raise BadNet("a net with a hub has no leads like it")
    parts = []
    for part in net[1]:
        parts.extend(leads_like(part))
    return small_net(net[0], tuple(parts))


def as_hubs(net):
    """The net with a hub in the place of each pipe."""
    check_net(net)
    if has_kind(net[1], "lead"):
        raise BadNet("a net with a lead has no hubs like it")
    return (net[0], tuple([hub_like(part) for part in net[1]]))


def as_pipes(net):
    """The net with pipes in the place of its hubs of two or three places."""
    check_net(net)
    if not all([is_pipe_or_small_hub(part) for part in net[1]]):
        raise BadNet("a net with a lead or with a hub of four or more places has no pipes like it")
    parts = []
    for part in net[1]:
        parts.extend(pipes_like(part))
    return small_net(net[0], tuple(parts))


def is_part(value):
    """Whether any value is a pipe, a lead or a hub."""
    if not isinstance(value, tuple) or len(value) not in (3, 4) or not is_number_from_0(value[-1]):
        return False
    if len(value) == 3:
        return value[0] == "hub" and are_names(value[1]) and len(value[1]) >= 2
    kind, start, end, _ = value
    if not is_name(start) or not is_name(end):
        return False
    return (kind == "pipe" and start < end) or (kind == "lead" and start != end)


def places_of_part(part):
    """The places of a part, in its order."""
    return part[1] if part[0] == "hub" else part[1:3]


def places_in(taps, parts):
    """The ascending list of the taps and of all places of the parts."""
    found = list(taps)
    for part in parts:
        found.extend(places_of_part(part))
    return sorted(set(found))


def inner_in(net):
    """As inner_of, of what is surely a net."""
    return [place for place in places_in(net[0], net[1]) if place not in net[0]]


def has_kind(parts, kind):
    """Whether one of the parts is of this kind: a pipe, a lead or a hub."""
    return any([part[0] == kind for part in parts])


def mixes_leads_and_hubs(parts):
    """Whether there are both leads and hubs among the parts."""
    return has_kind(parts, "lead") and has_kind(parts, "hub")


def sort_in(net):
    """As sort_of, of what is surely a net."""
    if has_kind(net[1], "lead"):
        return "leads"
    return "hubs" if has_kind(net[1], "hub") else "pipes"


def check_net(net):
    if not is_net(net):
        raise BadNet("a net is a pair of taps and at most 200 parts on at most 40 places")


def check_tap_left(net, tap):
    """Checks that it is a tap of the net, which can do without it."""
    if not isinstance(tap, str) or tap not in net[0] or len(net[0]) < FEWEST_TAPS_TO_LEAVE_ONE_OUT:
        raise BadPlaces("it is a tap of the net, which has three taps at least")


def check_new_names(net, names):
    """Checks that names gives inner places names that leave all places unlike."""
    inner = inner_in(net)
    if not isinstance(names, dict) or not all([place in inner for place in names]):
        raise BadPlaces("names is a dict whose keys are inner places of the net")
    if not all([is_name(name) for name in names.values()]):
        raise BadPlaces("inner places get names")
    places = places_in(net[0], net[1])
    if len({names.get(place, place) for place in places}) != len(places):
        raise BadPlaces("all places have unlike names")


def small_net(taps, parts):
    """The net of these taps and parts, if they are not too many."""
    if len(parts) > MOST_PARTS:
        raise TooMany(MOST_PARTS)
    if len(places_in(taps, parts)) > MOST_PLACES:
        raise TooMany(MOST_PLACES)
    return (taps, parts)


def names_beside(first, second):
    """New names for the inner places of the second net that are places of the first one, too."""
    taken = places_in(first[0], first[1] + second[1])
    places = places_in(first[0], first[1])
    names = {}
    at = 0
    for place in inner_in(second):
        if place in places:
            while f"n{at}" in taken:
                at += 1
            names[place] = f"n{at}"
            at += 1
    return names


def names_unlike(taken, many):
    """So many names that are none of those taken: the first of n0, n1, n2 and so on."""
    return [name for name in [f"n{at}" for at in range(len(taken) + many)] if name not in taken][:many]


def renamed_part(part, names):
    """The part with places under new names, those of a pipe or hub put in order, each one once."""
    places = [names.get(place, place) for place in places_of_part(part)]
    if part[0] == "hub":
        return ("hub", tuple(sorted(set(places))), part[2])
    if part[0] == "pipe":
        places = sorted(places)
    return (part[0], places[0], places[1], part[3])


def joins_places(part):
    """Whether the part has more than one place."""
    return len(set(places_of_part(part))) > 1


def taps_without(net, tap):
    """The taps of the net but this one."""
    return tuple([other for other in net[0] if other != tap])


def turned_part(part):
    if part[0] == "lead":
        return ("lead", part[2], part[1], part[3])
    return part


def leads_like(part):
    """The leads that let through what a pipe or a lead does."""
    if part[0] == "lead":
        return [part]
    _, start, end, width = part
    return [("lead", start, end, width), ("lead", end, start, width)]


def hub_like(part):
    """The hub that lets through what a pipe or a hub does."""
    if part[0] == "hub":
        return part
    return ("hub", part[1:3], part[3])


def is_pipe_or_small_hub(part):
    return part[0] == "pipe" or (part[0] == "hub" and len(part[1]) <= 3)


def pipes_like(part):
    """The pipes that let through what a pipe or a hub of two or three places does."""
    if part[0] == "pipe":
        return [part]
    _, places, width = part
    if len(places) == 2:
        return [("pipe", places[0], places[1], width)]
    half = times(width, (1, 2))
    first, second, third = places
    return [("pipe", first, second, half), ("pipe", first, third, half), ("pipe", second, third, half)]
