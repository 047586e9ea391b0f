"""Sendings: amounts that run at once between many pairs of taps."""

from behindtaps.errors import BadLengths, BadNumber, BadPlaces, BadSending, BadWishes, TooMany
from behindtaps.lots import check_lot
from behindtaps.nets import beside, check_net, has_kind, names_beside, places_of_part
from behindtaps.numbers import are_numbers_from_0, is_less, is_number, is_number_from_0, is_whole, minus, plus, sum_of
from behindtaps.numbers import sum_of_products, times, top_of

MOST_STEPS = 200
MOST_TRIPLES = 2000


def parted(net, wishes, lot):
    """The sum of the wishes of all pairs that the lot parts."""
    check_net(net)
    check_wishes(net, wishes)
    check_lot(net[0], lot)
    one_way = has_kind(net[1], "lead")
    return sum_of([wish for pair, wish in wishes.items() if is_parted(pair, lot, one_way)])


def is_sending(net, value):
    """Whether any value is a sending in the net."""
    check_net(net)
    return is_sending_in(net, value)


def carried(net, sending):
    """The dict from each pair of the sending to the sum of its amounts."""
    check_net(net)
    check_sending(net, sending)
    amounts = {}
    for pair, _, amount in sending:
        amounts.setdefault(pair, []).append(amount)
    found = {}
    for pair in sorted(amounts):
        found[pair] = sum_of(amounts[pair])
    return found


def loads(net, sending):
    """The list of the loads of all parts, in order."""
    check_net(net)
    check_sending(net, sending)
    return loads_of(net, sending)


def distance(net, lengths, pair):
    """The least length of a way from the first tap of the pair to the second; None if there is none."""
    check_net(net)
    if not are_lengths(net, lengths):
        raise BadLengths("lengths are a tuple of a number from 0 on for each part")
    if not is_pair(net, pair):
        raise BadPlaces("it is a pair of the net")
    return distances_from(net, lengths, pair[0]).get(pair[1], None)


def is_bar(net, wishes, value):
    """Whether any value are lengths that bar the wishes."""
    check_net(net)
    check_wishes(net, wishes)
    if not are_lengths(net, value):
        return False
    worths = []
    for (one, other), wish in wishes.items():
        if wish != 0:
            length = distances_from(net, value, one).get(other, None)
            if length is None:
                return True
            worths.append(times(wish, length))
    return is_less(sum_of_products([part[-1] for part in net[1]], value), sum_of(worths))


def shrunk(net, sending, factor):
    """The sending with each amount multiplied by the factor."""
    check_net(net)
    check_sending(net, sending)
    if not is_number(factor) or top_of(factor) <= 0 or is_less(1, factor):
        raise BadNumber("a factor is a number above 0 and at most 1")
    return times_amounts(sending, factor)


def mixed(net, sending, more, factor):
    """One sending times the factor and another one times 1 less the factor, together."""
    check_net(net)
    check_sending(net, sending)
    check_sending(net, more)
    if not is_number(factor) or top_of(factor) <= 0 or not is_less(factor, 1):
        raise BadNumber("a factor is a number above 0 and below 1")
    check_many(sending, more)
    return times_amounts(sending, factor) + times_amounts(more, minus(1, factor))


def sent_beside(first, sending, second, more):
    """The sendings in two nets, one behind the other, as they run when the nets are laid beside one another."""
    check_net(first)
    check_sending(first, sending)
    check_net(second)
    check_sending(second, more)
    beside(first, second)
    check_many(sending, more)
    names = names_beside(first, second)
    raised = []
    for pair, way, amount in more:
        steps = tuple([(len(first[1]) + part, names.get(place, place)) for part, place in way])
        raised.append((pair, steps, amount))
    return sending + tuple(raised)


def is_pair(net, value):
    """Whether any value is a pair of the net."""
    if not isinstance(value, tuple) or len(value) != 2:
        return False
    one, other = value
    if one not in net[0] or other not in net[0]:
        return False
    return one != other if has_kind(net[1], "lead") else one < other


def check_wishes(net, wishes):
    if not isinstance(wishes, dict) or not all([is_pair(net, pair) for pair in wishes]):
        raise BadWishes("wishes are a dict from pairs of the net")
    if not all([is_number_from_0(wish) for wish in wishes.values()]):
        raise BadWishes("wishes are numbers from 0 on")


def is_parted(pair, lot, one_way):
    """Whether the lot parts the pair; where all may run one way only, it has the first tap of it alone."""
    if one_way:
        return pair[0] in lot and pair[1] not in lot
    return (pair[0] in lot) != (pair[1] in lot)


def check_sending(net, sending):
    if not is_sending_in(net, sending):
        raise BadSending("a sending is a tuple of at most 2000 triples that load no part more than its width")


def check_many(sending, more):
    if len(sending) + len(more) > MOST_TRIPLES:
        raise TooMany(MOST_TRIPLES)


def is_sending_in(net, value):
    """As is_sending, of what is surely a net."""
    if not isinstance(value, tuple) or len(value) > MOST_TRIPLES or not all([is_triple(net, item) for item in value]):
        return False
    return not any([is_less(part[-1], load) for part, load in zip(net[1], loads_of(net, value))])


def is_triple(net, value):
    """Whether any value is a triple of a pair, a way from its first tap to its second, and an amount above 0."""
    if not isinstance(value, tuple) or len(value) != 3:
        return False
    pair, way, amount = value
    return is_pair(net, pair) and is_number(amount) and top_of(amount) > 0 and is_way(net, pair, way)


def is_way(net, pair, value):
    """Whether any value is a way from the first tap of the pair to the second."""
    if not isinstance(value, tuple) or not 1 <= len(value) <= MOST_STEPS:
        return False
    place = pair[0]
    for step in value:
        if not is_step_from(net, place, step):
            return False
        place = step[1]
    return place == pair[1]


def is_step_from(net, place, value):
    """Whether any value is a step through a part from this place to another one."""
    if not isinstance(value, tuple) or len(value) != 2 or not is_whole(value[0]):
        return False
    return 0 <= value[0] < len(net[1]) and leads_through(net[1][value[0]], place, value[1])


def leads_through(part, start, end):
    """Whether the part leads from the one place to the other."""
    places = places_of_part(part)
    if part[0] == "lead":
        return places == (start, end)
    return start != end and start in places and end in places


def loads_of(net, sending):
    """As loads, of what is made of triples but may load parts too much."""
    amounts = [[] for _ in net[1]]
    for _, way, amount in sending:
        for part, _ in way:
            amounts[part].append(amount)
    return [sum_of(told) for told in amounts]


def are_lengths(net, value):
    """Whether any value are lengths of the net."""
    return are_numbers_from_0(value, len(net[1]))


def distances_from(net, lengths, start):
    """The dict from each place to which a way leads from the start to the least length of such a way."""
    found = {start: 0}
    changed = True
    while changed:
        changed = False
        for part, length in zip(net[1], lengths):
            for place in places_of_part(part):
                near = found.get(place, None)
                if near is None:
                    continue
                for other in places_of_part(part):
                    further = plus(near, length)
                    if leads_through(part, place, other) and is_longer(found.get(other, None), further):
                        found[other] = further
                        changed = True
    return found


def is_longer(length, other):
    """Whether a length is more than another one; None is more than any."""
    return length is None or is_less(other, length)


def times_amounts(sending, factor):
    """The triples with each amount multiplied by the factor."""
    return tuple([(pair, way, times(amount, factor)) for pair, way, amount in sending])
