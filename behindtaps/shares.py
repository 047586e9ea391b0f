"""How much of all wishes can be sent at once."""

from behindtaps.errors import BadNet, BadWishes, TooMany
from behindtaps.flows import what_a_lot_lets
from behindtaps.lots import plain_lots_in
from behindtaps.nets import check_net, sort_in
from behindtaps.numbers import divided, is_less, quotient, sum_of
from behindtaps.sendings import check_wishes, is_parted, times_amounts
from behindtaps.ways import Share

MOST_PARTS_TO_SEND = 30
MOST_TAPS_AT_ONCE = 4


def share(net, wishes):
    """How often all wishes can be sent at most, a sending that does it, and lengths that show it."""
    check_net(net)
    check_wishes(net, wishes)
    if not has_wish(wishes):
        raise BadWishes("some wish is above 0")
    check_few_parts(net)
    return greatest_share_of(net, wishes)


def sent(net, wishes):
    """A sending for the wishes, or lengths that bar them."""
    check_net(net)
    check_wishes(net, wishes)
    check_few_parts(net)
    return sent_or_barred(net, wishes)


def at_once(net, wishes):
    """A sending for the wishes, or the first plain lot whose wall is too small for them."""
    check_net(net)
    if sort_in(net) != "pipes" or len(net[0]) > MOST_TAPS_AT_ONCE:
        raise BadNet("it is a net of pipes with at most four taps")
    check_wishes(net, wishes)
    check_few_parts(net)
    for lot in plain_lots_in(net[0], "pipes"):
        wished = sum_of([wish for pair, wish in wishes.items() if is_parted(pair, lot, False)])
        if is_less(what_a_lot_lets(net, lot), wished):
            return ("lot", lot)
    return sent_or_barred(net, wishes)


def has_wish(wishes):
    """Whether some wish is above 0."""
    return any([wish != 0 for wish in wishes.values()])


def check_few_parts(net):
    if len(net[1]) > MOST_PARTS_TO_SEND:
        raise TooMany(MOST_PARTS_TO_SEND)


def sent_or_barred(net, wishes):
    """As sent, of what are surely a net of few parts and wishes."""
    if not has_wish(wishes):
        return ("sent", ())
    most, sending, lengths = greatest_share_of(net, wishes)
    if lengths is None:
        # Where a pair has no way, any lengths bar its wish.
        return ("barred", (0,) * len(net[1]))
    if is_less(most, 1):
        return ("barred", lengths)
    return ("sent", times_amounts(sending, quotient(1, most)))


def greatest_share_of(net, wishes):
    """As share, of what are surely a net of few parts and wishes, one of them above 0."""
    told = Share(net, wishes)
    if not told.is_carried():
        return (0, (), None)
    top, bottom = told.worth()
    tops, total, wish_bottom = told.lengths()
    lengths = tuple([divided(length * wish_bottom, total) for length in tops])
    amounts, amount_bottom = told.amounts()
    if top == 0:
        return (0, (), lengths)
    return (divided(top, bottom), tuple([(pair, way, divided(amount, amount_bottom)) for pair, way, amount in amounts]),
            lengths)
