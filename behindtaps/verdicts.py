"""Whether a claim holds in all nets of a sort, and what shows it."""

from behindtaps.claims import check_claim, summed, worth_in
from behindtaps.contests import paper_or_net
from behindtaps.cubes import frame_for, frame_of, targets_of
from behindtaps.flows import what_a_lot_lets
from behindtaps.lots import check_lot, check_sort, opposite_in
from behindtaps.numbers import is_less, quotient, turned


def verdict(claim, sort):
    """A paper, which shows that the claim holds in all nets of the sort, or a net that breaks it."""
    frame = frame_for(claim, sort)
    return paper_or_net(frame, targets_of(claim, sort))


def greatest_share(claim, sort, lot):
    """How much of the wall of the lot the claim can do without, and what shows it; None if it does not hold."""
    check_claim(claim)
    check_sort(sort)
    check_lot(claim[0], lot)
    if decided(claim, sort)[0] == "breaks":
        return None
    net = cheapest_pipe(claim, lot)
    while True:
        share = quotient(worth_in(claim, net), what_a_lot_lets(net, lot))
        word, shown = decided(lessened(claim, lot, share), sort)
        if word == "holds":
            return (share, shown, net)
        # The net breaks the lesser claim but not the claim, so the lot has a wall there, and its share is less.
        net = shown


def decided(claim, sort):
    """As verdict, of what are surely a claim and a sort."""
    return paper_or_net(frame_of(claim, sort), targets_of(claim, sort))


def lessened(claim, lot, share):
    """The claim less the share of the wall of the lot."""
    return summed(claim[0], [*claim[1], (lot, turned(share))])


def cheapest_pipe(claim, lot):
    """A net of one pipe out of the lot in which the claim is worth the least."""
    best = None
    for tap in lot:
        for other in opposite_in(claim[0], lot):
            net = (claim[0], (("pipe", min(tap, other), max(tap, other), 1),))
            if best is None or is_less(worth_in(claim, net), worth_in(claim, best)):
                best = net
    return best
