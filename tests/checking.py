"""What the tests share: values of all kinds, drawn nets and claims, and slow ways to work things out."""

import copy
import itertools
import random
from fractions import Fraction

from behindtaps import errors

NAMES = ("a", "b", "c", "d", "e", "f")
SORTS = ("pipes", "leads", "hubs")
NO_NUMBERS = (True, False, None, "1", [1, 2], {}, (), (1,), (3, 1), (3, 0), (3, -2), (4, 2), (0, 2), (1, 2, 3),
              (True, 2), (1, True), ("1", 2), (1, None), ((1, 2), 3), [3, 2])
NO_NUMBERS_FROM_0 = NO_NUMBERS + (-1, (-1, 2))
NO_TAPS = (True, None, 3, "ab", (), ("a",), ["a", "b"], ("b", "a"), ("a", "a"), ("a", "b", "b"), ("a", 1), ("a", None),
           ("A", "b"), ("a", "b", "c", "d", "e", "f", "g"), ("", "a"), ("1a", "b"), ("a", "b_"), ("a", "abcdefghi"),
           ("a", "\u00e9"), ("a", "b\u0661"), ("a", "b "), {"a": 1, "b": 2}, (("a",), ("b",)))
NO_SORTS = (None, True, 1, "", "pipe", "Pipes", ["pipes"], ("pipes",), {})
LONG = 10 ** 29 + 7


def fraction(value):
    """What a number is worth; it must have the form of the document."""
    if isinstance(value, tuple):
        top, bottom = value
        assert type(top) is int and type(bottom) is int and bottom >= 2, value
        worth = Fraction(top, bottom)
        assert (worth.numerator, worth.denominator) == (top, bottom), value
        return worth
    assert type(value) is int, value
    return Fraction(value)


def as_number(worth):
    """The number, in the form of the document, that is worth a fraction."""
    worth = Fraction(worth)
    if worth.denominator == 1:
        return worth.numerator
    return (worth.numerator, worth.denominator)


def error_of(function, arguments):
    """The error that a call raises, or None."""
    try:
        function(*arguments)
    except errors.TapError as error:
        return error
    return None


def assert_errors(case, function, right, wrong):
    """Each wrong value raises the error of its place, whatever stands behind it, and right ones raise none.

    wrong is a list of triples (place, error, values), in the order in which they are to be checked.
    Returns how many calls were made.
    """
    case.assertIsNone(error_of(function, right), (function.__name__, right))
    for at, (place, kind, values) in enumerate(wrong):
        for value in values:
            arguments = list(right)
            arguments[place] = value
            assert_raises(case, function, arguments, kind)
            for later, _, others in wrong[at + 1:]:
                if later == place:
                    continue
                for other in (others[0], others[-1]):
                    more = list(arguments)
                    more[later] = other
                    assert_raises(case, function, more, kind)


def assert_raises(case, function, arguments, kind, **fields):
    """The call raises just this error with these fields, and changes nothing that is passed in."""
    before = copy.deepcopy(arguments)
    error = error_of(function, arguments)
    case.assertIs(type(error), kind, (function.__name__, arguments))
    for name, value in fields.items():
        case.assertEqual(getattr(error, name), value, (function.__name__, arguments))
    case.assertEqual(shown(before), shown(arguments))


def shown(arguments):
    """What arguments say, True and 1 told apart, books by their claims."""
    return [repr(value.claims() if hasattr(value, "claims") else value) for value in arguments]


def assert_new(case, function, arguments):
    """The result is a new list or dict each time, and nothing that is passed in is changed."""
    before = copy.deepcopy(arguments)
    first = function(*arguments)
    kept = copy.deepcopy(first)
    first.clear()
    case.assertEqual(function(*arguments), kept)
    case.assertEqual(repr(before), repr(arguments))


def all_lots(taps):
    """All lots of taps, ascending."""
    return sorted(lot for many in range(1, len(taps)) for lot in itertools.combinations(taps, many))


def other_taps(taps, lot):
    return tuple(tap for tap in taps if tap not in lot)


def plain(taps, lot):
    """The plain lot, as [7] says it."""
    other = other_taps(taps, lot)
    if len(lot) != len(other):
        return min(lot, other, key=len)
    return lot if taps[0] in lot else other


def keys_of(taps, sort):
    """The lots that a table has as its keys."""
    if sort == "leads":
        return all_lots(taps)
    return sorted({plain(taps, lot) for lot in all_lots(taps)})


def part_places(part):
    return part[1] if part[0] == "hub" else part[1:3]


def net_places(net):
    return sorted({*net[0], *(place for part in net[1] for place in part_places(part))})


def net_sort(net):
    kinds = {part[0] for part in net[1]}
    return "leads" if "lead" in kinds else "hubs" if "hub" in kinds else "pipes"


def cost_of(net, side):
    """The cost of a side, as [9] says it."""
    total = Fraction(0)
    for part in net[1]:
        inside = [place in side for place in part_places(part)]
        if part[0] == "lead":
            cut = inside == [True, False]
        else:
            cut = len(set(inside)) == 2
        total += fraction(part[-1]) if cut else 0
    return total


def all_sides(net, source, target):
    """All sides from the source to the target, as sets."""
    free = [place for place in net_places(net) if place not in source and place not in target]
    for many in range(len(free) + 1):
        for more in itertools.combinations(free, many):
            yield {*source, *more}


def least_cost(net, source, target):
    """The least cost of a side, counted over all of them."""
    return min(cost_of(net, side) for side in all_sides(net, source, target))


def slow_walls(net, lots):
    """The wall of each of the lots, counted over all sides."""
    return {lot: as_number(least_cost(net, lot, other_taps(net[0], lot))) for lot in lots}


def flow_faults(net, source, target, flow):
    """What is wrong with a flow by [25], as a list of words."""
    if type(flow) is not tuple or len(flow) != len(net[1]):
        return ["form"]
    faults = []
    out = {place: Fraction(0) for place in net_places(net)}
    for part, runs in zip(net[1], flow):
        width = fraction(part[-1])
        if part[0] == "hub":
            amounts = [fraction(amount) for amount in runs]
            if type(runs) is not tuple or len(amounts) != len(part[1]) or sum(amounts) != 0:
                faults.append("hub")
            if sum(amount for amount in amounts if amount > 0) > width:
                faults.append("hub width")
            for place, amount in zip(part[1], amounts):
                out[place] += amount
            continue
        amount = fraction(runs)
        low = 0 if part[0] == "lead" else -width
        if not low <= amount <= width:
            faults.append("width")
        out[part[1]] += amount
        out[part[2]] -= amount
    faults.extend(place for place in out if place not in source and place not in target and out[place] != 0)
    return faults


def flow_amount(net, source, flow):
    """What goes out of the places of the source less what comes in, by [25]."""
    total = Fraction(0)
    for part, runs in zip(net[1], flow):
        for place, amount in zip(part_places(part), runs if part[0] == "hub" else (runs, None)):
            if place in source and part[0] == "hub":
                total += fraction(amount)
        if part[0] != "hub":
            total += fraction(runs) * ((part[1] in source) - (part[2] in source))
    return total


def drawn_number(draw, kind):
    """A number from 0 on: a small whole, a small fraction, or one of thirty digits."""
    if kind == "whole":
        return draw.randint(0, 5)
    if kind == "fraction":
        return as_number(Fraction(draw.randint(0, 12), draw.randint(1, 6)))
    return as_number(Fraction(draw.randint(0, LONG), draw.randint(1, LONG)))


def drawn_part(draw, places, sort, width):
    """A part of a net of the sort on some of the places."""
    if draw.random() < 0.3 or sort == "pipes":
        start, end = sorted(draw.sample(places, 2))
        return ("pipe", start, end, width)
    if sort == "leads":
        start, end = draw.sample(places, 2)
        return ("lead", start, end, width)
    many = draw.randint(2, min(4, len(places)))
    return ("hub", tuple(sorted(draw.sample(places, many))), width)


def drawn_net(draw, taps, sort, inner=3, parts=8, kind=None):
    """A net with these taps that is of the sort."""
    places = [*taps, *["x", "y1", "n0", "n1", "z"][:inner]]
    kind = kind or draw.choice(("whole", "whole", "fraction", "long"))
    found = []
    for _ in range(draw.randint(0, parts)):
        if found and draw.random() < 0.15:
            found.append(draw.choice(found))
            continue
        width = 0 if draw.random() < 0.1 else drawn_number(draw, kind)
        found.append(drawn_part(draw, places, sort, width))
    return (taps, tuple(found))


def drawn_nets(seed, many, **told):
    """So many drawn nets of all sorts with two to five taps."""
    draw = random.Random(seed)
    for at in range(many):
        taps = NAMES[:draw.randint(2, 5)]
        yield drawn_net(draw, taps, SORTS[at % 3], draw.randint(0, 3), **told)


def drawn_claim(draw, taps, kind=None):
    """A claim with these taps."""
    kind = kind or draw.choice(("whole", "fraction"))
    terms = []
    for lot in all_lots(taps):
        if draw.random() < 0.4:
            weight = drawn_number(draw, kind)
            side = draw.choice((1, -1))
            worth = fraction(weight) * side
            if worth != 0:
                terms.append((lot, as_number(worth)))
    return (taps, tuple(terms))


def plain_weights(claim, sort):
    """The weights of the plain form, as fractions, without zeros."""
    found = {}
    for lot, weight in claim[1]:
        key = lot if sort == "leads" else plain(claim[0], lot)
        found[key] = found.get(key, 0) + fraction(weight)
    return {lot: found[lot] for lot in sorted(found) if found[lot] != 0}
