"""Kinds: the finitely many small nets that stand for all nets of a sort with few taps, and checks of tables."""

from itertools import combinations, permutations

from behindtaps.claims import check_claim, is_table_for, plain_in, summed, worth_by
from behindtaps.errors import BadTable, TooMany
from behindtaps.flows import cuts
from behindtaps.inequalities import lowest
from behindtaps.lots import check_sort, check_taps, lots_in, plain_lots_in
from behindtaps.nets import inner_in, names_unlike, renamed_part
from behindtaps.numbers import sum_of_products, times, top_of, turned

REACH = {"pipes": 5, "hubs": 4, "leads": 3}


def kinds(taps, sort):
    """The tuple of the kinds, as nets with these taps."""
    check_taps(taps)
    check_sort(sort)
    check_reach(taps, sort)
    return tuple(kinds_of(taps, sort))


def is_table(taps, sort, value):
    """Whether any value is a table for these taps and this sort."""
    check_taps(taps)
    check_sort(sort)
    return is_table_for(taps, sort, value)


def checks(taps, sort):
    """The tuple of the checks, claims that just the tables of nets of the sort fail nowhere."""
    check_taps(taps)
    check_sort(sort)
    check_reach(taps, sort)
    return tuple(checks_of(taps, sort))


def first_failed(taps, sort, table):
    """The first check that the table fails, or None."""
    check_table(taps, sort, table)
    check_reach(taps, sort)
    return failed_by(taps, sort, table)


def reached(taps, sort, table):
    """A net of the sort with this table, or the first check that the table fails."""
    check_table(taps, sort, table)
    check_reach(taps, sort)
    failed = failed_by(taps, sort, table)
    if failed is not None:
        return ("fails", failed)
    return ("net", net_of_kinds(taps, sort, multiples_of(taps, sort, table)))


def verdict_by_kinds(claim, sort):
    """The worths of the claim in the kinds, or the first kind that breaks it."""
    check_claim(claim)
    check_sort(sort)
    check_reach(claim[0], sort)
    worths = []
    for kind in kinds_of(claim[0], sort):
        worth = worth_in_kind(claim[1], kind)
        if top_of(worth) < 0:
            return ("breaks", kind)
        worths.append(worth)
    return ("holds", tuple(worths))


def is_in_reach(taps, sort):
    """Whether kinds are told for so many taps."""
    return len(taps) <= REACH[sort]


def check_reach(taps, sort):
    if not is_in_reach(taps, sort):
        raise TooMany(REACH[sort])


def check_table(taps, sort, table):
    """Checks taps, a sort, and a table for them."""
    check_taps(taps)
    check_sort(sort)
    if not is_table_for(taps, sort, table):
        raise BadTable("a table is a dict from just the plain lots to numbers")


def pairs_of(taps):
    """The ascending list of the pairs of taps."""
    return list(combinations(list(taps), 2))


def kinds_of(taps, sort):
    """As kinds, of few taps, as a list."""
    if sort == "leads":
        return kinds_of_leads(taps)
    found = [(taps, (("pipe", one, other, 1),)) for one, other in pairs_of(taps)]
    found.extend([star_of(taps, [(tap, 1) for tap in four]) for four in combinations(list(taps), 4)])
    if len(taps) == 5:
        found.extend([star_of(taps, [(tap, 2 if tap == middle else 1) for tap in taps]) for middle in taps])
    if sort == "hubs" and len(taps) == 4:
        found.append((taps, (("hub", taps, 1),)))
    return found


def kinds_of_leads(taps):
    """The kinds of two or three taps for leads."""
    found = [(taps, (("lead", one, other, 1),)) for one, other in permutations(list(taps), 2)]
    if len(taps) == 3:
        inner = names_unlike(taps, 1)[0]
        for tap in taps:
            others = [("lead", inner, other, 1) for other in taps if other != tap]
            found.append((taps, (("lead", tap, inner, 1), *others)))
        for tap in taps:
            others = [("lead", other, inner, 1) for other in taps if other != tap]
            found.append((taps, (*others, ("lead", inner, tap, 1))))
    return found


def star_of(taps, widths):
    """The net of an inner place with a pipe to each of some taps, told as pairs of a tap and a width."""
    inner = names_unlike(taps, 1)[0]
    return (taps, tuple([("pipe", min(tap, inner), max(tap, inner), width) for tap, width in widths]))


def wall_in_kind(kind, lot):
    """The wall of the lot in a kind: there is at most one inner place, which a side may have or not."""
    sides = [lot, (*lot, *inner_in(kind))]
    return min([sum([part[-1] for part in kind[1] if cuts(side, part)]) for side in sides])


def worth_in_kind(terms, kind):
    """The sum of weight times wall in the kind."""
    return sum_of_products([weight for _, weight in terms], [wall_in_kind(kind, lot) for lot, _ in terms])


def net_of_kinds(taps, sort, multiples):
    """The net of the kinds, each multiplied, laid beside one another; a multiple of 0 leaves no parts."""
    parts = []
    every = kinds_of(taps, sort)
    for kind, multiple, name in zip(every, multiples, names_unlike(taps, len(every))):
        if multiple != 0:
            names = {}
            for place in inner_in(kind):
                names[place] = name
            parts.extend([renamed_part(part[:-1] + (times(part[-1], multiple),), names) for part in kind[1]])
    return (taps, tuple(parts))


def multiples_of(taps, sort, table):
    """Multiples of the kinds that come to a table which fails no check."""
    every = kinds_of(taps, sort)
    rows = []
    for lot in plain_lots_in(taps, sort):
        row = tuple([wall_in_kind(kind, lot) for kind in every])
        rows.extend([(row, table[lot]), (tuple([-entry for entry in row]), turned(table[lot]))])
    for at in range(len(every)):
        rows.append((tuple([1 if at == other else 0 for other in range(len(every))]), 0))
    return lowest(rows, (0,) * len(every))[2]


def failed_by(taps, sort, table):
    """As first_failed, of what is surely a table for few taps."""
    for check in checks_of(taps, sort):
        if top_of(worth_by(check, sort, table)) < 0:
            return check
    return None


def checks_of(taps, sort):
    """As checks, of few taps, as a list."""
    if len(taps) == 2:
        return [(taps, ((lot, 1),)) for lot in plain_lots_in(taps, sort)]
    found = []
    if sort == "leads":
        found = [[(lot, 1)] for lot in lots_in(taps)]
    found.extend([[((one,), 1), ((other,), 1), ((one, other), -1)] for one, other in pairs_of(taps)])
    if sort == "leads":
        found.extend([parted_check(taps, tap) for tap in taps])
    elif sort == "hubs" and len(taps) == 4:
        found.extend([hub_check(taps, pair) for pair in pairs_of(taps)])
    elif len(taps) == 4:
        found.append(cross_check(taps, taps[0]))
    elif len(taps) == 5:
        found.extend([five_check(taps, pair) for pair in pairs_of(taps)])
    return [plain_in(summed(taps, terms), sort) for terms in found]


def parted_check(taps, tap):
    """The walls of the tap with each of the two others, less its own."""
    others = [other for other in taps if other != tap]
    return [*[(tuple(sorted([tap, other])), 1) for other in others], ((tap,), -1)]


def hub_check(taps, pair):
    """The walls of the first tap of the pair with each tap outside of it, less those of both alone."""
    first, second = pair
    others = [tap for tap in taps if tap not in pair]
    return [*[(tuple(sorted([first, other])), 1) for other in others], ((first,), -1), ((second,), -1)]


def cross_check(taps, tap):
    """The walls of one tap with each other one of four, less those of all taps alone."""
    pairs = [(tuple(sorted([tap, other])), 1) for other in taps if other != tap]
    return [*pairs, *[((other,), -1) for other in taps]]


def five_check(taps, pair):
    """The walls of all pairs of the three taps outside of the pair, less that of the pair and those of the three."""
    others = [tap for tap in taps if tap not in pair]
    pairs = [(other_pair, 1) for other_pair in pairs_of(others)]
    return [*pairs, (pair, -1), *[((tap,), -1) for tap in others]]
