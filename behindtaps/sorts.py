"""Realms, sorts of nets and ways of rules: what holds for which; and books of claims."""

from behindtaps.claims import check_claim, greater_terms, is_claim, lesser_terms, plain_in
from behindtaps.cubes import frame_of, is_paper, targets_of
from behindtaps.errors import BadBook, BadClaim, BadGiven, BadPaper, BadRealm, CrossedLot, NoClaim, TooMany
from behindtaps.frames import all_corners
from behindtaps.lots import check_taps, opposite_in, plain_lot_in
from behindtaps.nets import check_net, has_kind, leads_like, names_unlike, places_in, small_net
from behindtaps.numbers import minus, quotient, sum_of, sum_of_products, top_of
from behindtaps.verdicts import decided
from behindtaps.widest import WAYS, check_way, check_width, derived

REALMS = ("pipes", "hubs", "leads", "even", "free")
MOST_DIRECTIONS_FOR_REALMS = 3
MOST_IN_BOOK = 30


def realms_of(claim):
    """The dict from each realm to whether the claim holds for it."""
    check_claim(claim)
    check_for_realms(claim)
    found = {}
    for realm in REALMS:
        found[realm] = holds_for(claim, realm)
    return found


def parting(claim, realm, other):
    """What shows that the claim holds for the realm and not for the other one; None unless this is so."""
    check_claim(claim)
    check_realm(realm)
    check_realm(other)
    check_for_realms(claim)
    word, shown = decided_for(claim, realm)
    other_word, breaking = decided_for(claim, other)
    if word == "breaks" or other_word == "holds":
        return None
    return (shown, breaking)


def led_paper(claim, paper):
    """The paper for hubs that a paper for leads is led to."""
    check_claim(claim)
    check_few_directions(claim)
    if not is_paper(claim, "leads", paper):
        raise BadPaper("it is a paper for the claim and leads")
    check_crossed(claim)
    at = {}
    for place, corner in enumerate(all_corners(len(greater_terms(claim)))):
        at[corner] = place
    frame = frame_of(claim, "hubs")
    corners = [at[led_corner(claim, frame, corner)] for corner in all_corners(len(frame[2]))]
    found = []
    for lot, _, _ in targets_of(claim, "hubs"):
        found.append(tuple([mean_at(claim, paper, lot, corner) for corner in corners]))
    return tuple(found)


def one_way_net(net):
    """A net of leads with the same walls; a net with a lead as it is."""
    check_net(net)
    if has_kind(net[1], "lead"):
        return net
    names = names_unlike(places_in(net[0], net[1]), 2 * len(net[1]))
    parts = []
    for at, part in enumerate(net[1]):
        if part[0] == "hub":
            parts.extend(leads_through(part, names[2 * at], names[2 * at + 1]))
        else:
            parts.extend(leads_like(part))
    return small_net(net[0], tuple(parts))


class ClaimBook:
    """Claims with the same taps, each one once, in the order in which they were put."""

    def __init__(self, taps, claims=()):
        check_taps(taps)
        if not isinstance(claims, (list, tuple)) or not all([is_claim(claim) and claim[0] == taps for claim in claims]):
            raise BadGiven("claims are a list of claims with these taps")
        self.taps = taps
        self.in_order = []
        for claim in claims:
            self.put(claim)

    def put(self, claim):
        """Puts the claim behind the others if it is new, and tells whether it was."""
        self.check_own(claim)
        if claim in self.in_order:
            return False
        if len(self.in_order) >= MOST_IN_BOOK:
            raise TooMany(MOST_IN_BOOK)
        self.in_order.append(claim)
        return True

    def drop(self, claim):
        """Takes the claim out."""
        self.check_own(claim)
        if claim not in self.in_order:
            raise NoClaim("the claim is not in the book")
        self.in_order.remove(claim)

    def claims(self):
        """The list of the claims, in order."""
        return list(self.in_order)

    def holding(self, realm):
        """The list of the claims that hold for the realm, in order."""
        check_realm(realm)
        for claim in self.in_order:
            check_for_realms(claim)
        return [claim for claim in self.in_order if holds_for(claim, realm)]

    def follows(self, claim, way):
        """Whether the claim holds for the way if all claims of the book but this one are given."""
        self.check_own(claim)
        check_way(way)
        check_width(self.taps, way)
        return follows_from(claim, way, self.in_order)

    def needed(self, way):
        """The claims that are left when each one, in order, is left out that follows from those still there."""
        check_way(way)
        check_width(self.taps, way)
        left = list(self.in_order)
        for claim in self.in_order:
            if follows_from(claim, way, left):
                left.remove(claim)
        return left

    def joined(self, other):
        """A new book with the claims of this one and then those of the other one."""
        if not isinstance(other, ClaimBook) or other.taps != self.taps:
            raise BadBook("it is a book of the same taps")
        return ClaimBook(self.taps, [*self.in_order, *other.in_order])

    def check_own(self, claim):
        if not is_claim(claim) or claim[0] != self.taps:
            raise BadClaim("it is a claim with the taps of the book")

    def __eq__(self, other):
        if not isinstance(other, ClaimBook) or self.taps != other.taps:
            return False
        return len(self.in_order) == len(other.in_order) and all([claim in other.in_order for claim in self.in_order])

    def __len__(self):
        return len(self.in_order)


def check_realm(realm):
    if not isinstance(realm, str) or realm not in REALMS:
        raise BadRealm("a realm is pipes, hubs, leads, even or free")


def check_few_directions(claim):
    """Checks that neither the cube for hubs nor the one for leads has too many directions."""
    if max([len(greater_terms(plain_in(claim, sort))) for sort in ("hubs", "leads")]) > MOST_DIRECTIONS_FOR_REALMS:
        raise TooMany(MOST_DIRECTIONS_FOR_REALMS)


def check_for_realms(claim):
    """Checks that it can be told for all realms whether the claim holds."""
    check_few_directions(claim)
    check_width(claim[0], "free")


def decided_for(claim, realm):
    """What verdict says of a sort, what widest says of a way."""
    return derived(claim, realm, ()) if realm in WAYS else decided(claim, realm)


def holds_for(claim, realm):
    return decided_for(claim, realm)[0] == "holds"


def follows_from(claim, way, claims):
    """Whether the claim holds for the way if these claims but itself are given."""
    return derived(claim, way, [one for one in claims if one != claim])[0] == "holds"


def check_crossed(claim):
    """Checks that no lot and its opposite have weights of unlike signs."""
    told = dict(claim[1])
    crossed = []
    for lot, weight in claim[1]:
        other = told.get(opposite_in(claim[0], lot), weight)
        if (top_of(weight) > 0) != (top_of(other) > 0):
            crossed.append(plain_lot_in(claim[0], lot))
    if len(crossed) > 0:
        raise CrossedLot(min(crossed))


def led_corner(claim, frame, corner):
    """The corner of the cube for leads to which a corner of the plain frame is led."""
    sides = {}
    for (lot, _), side in zip(frame[2], corner):
        sides[lot] = side
        sides[opposite_in(claim[0], lot)] = 1 - side
    return tuple([sides[lot] for lot, _ in greater_terms(claim)])


def mean_at(claim, paper, plain, corner):
    """The mean, by weights, of the numbers at a corner for the lesser lots that are this plain one or its opposite."""
    weights = []
    told = []
    for (lot, weight), row in zip(lesser_terms(claim), paper):
        if plain_lot_in(claim[0], lot) == plain:
            weights.append(weight)
            told.append(row[corner] if lot == plain else minus(1, row[corner]))
    return quotient(sum_of_products(weights, told), sum_of(weights))


def leads_through(hub, first, second):
    """The leads that let through what a hub does, by way of two new places."""
    _, places, width = hub
    leads = [("lead", place, first, width) for place in places]
    leads.append(("lead", first, second, width))
    return leads + [("lead", second, place, width) for place in places]
