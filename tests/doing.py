"""What the tests of deeds share: drawn deeds, and the document's words, worked out slowly."""

from fractions import Fraction

from checking import as_number, drawn_net, fraction, keys_of, other_taps, part_places, plain
from judging import least_over_sides

MORE_NAMES = ("a", "b", "c", "d", "e", "f", "n0", "n1", "x", "y1")
WORDS = ("lay", "add", "melt", "hide", "scale", "beside")


def taps_after(taps, deed):
    """The taps that a fitting deed leaves."""
    if deed[0] == "add":
        return tuple(sorted((*taps, deed[1])))
    if deed[0] in ("melt", "hide"):
        return tuple(tap for tap in taps if tap != deed[-1])
    return taps


def drawn_deed(draw, taps, sort, words=WORDS, kind="whole"):
    """A deed of the sort that fits the taps."""
    while True:
        word = draw.choice(words)
        if word == "lay":
            net = drawn_net(draw, taps, sort, 0, 3, kind)
            if net[1]:
                return (word, net[1][0])
        if word == "add" and len(taps) < 6:
            return (word, draw.choice([name for name in MORE_NAMES if name not in taps]))
        if word == "melt" and len(taps) > 2:
            return (word, *draw.sample(taps, 2))
        if word == "hide" and len(taps) > 2:
            return (word, draw.choice(taps))
        if word == "scale":
            return (word, draw.choice((0, 1, 2, (1, 2), (5, 3), 2, 3)))
        if word == "beside":
            # The inner places of drawn nets are called x and y1; what is a tap is none.
            return (word, drawn_net(draw, taps, sort, 0 if "x" in taps else 1 if "y1" in taps else 2, 4, kind))


def drawn_deeds(draw, taps, sort, many, words=WORDS, kind="whole"):
    """At most so many deeds of the sort."""
    deeds = []
    for _ in range(draw.randint(0, many)):
        deeds.append(drawn_deed(draw, taps, sort, words, kind))
        taps = taps_after(taps, deeds[-1])
    return deeds


def left_taps(taps, deeds):
    for deed in deeds:
        taps = taps_after(taps, deed)
    return taps


def slow_done(net, deeds):
    """The net behind deeds, seen from its taps alone: inner places are numbered anew wherever names could meet."""
    taps, parts = net
    used = 0

    def renamed(parts, names):
        found = []
        for part in parts:
            places = [names.get(place, place) for place in part_places(part)]
            if part[0] == "hub":
                found.append(("hub", tuple(sorted(set(places))), part[-1]))
            else:
                found.append((part[0], *places, part[-1]))
        return found

    for deed in deeds:
        inner = sorted({place for part in parts for place in part_places(part)} - set(taps))
        names = {place: f"i{used + at}" for at, place in enumerate(inner)}
        used += len(inner)
        parts = renamed(parts, names)
        if deed[0] == "lay":
            parts.append(deed[1])
        elif deed[0] == "melt":
            parts = [part for part in renamed(parts, {deed[2]: deed[1]}) if len(set(part_places(part))) > 1]
        elif deed[0] == "scale":
            parts = [part[:-1] + (as_number(fraction(part[-1]) * fraction(deed[1])),) for part in parts]
        elif deed[0] == "beside":
            more = sorted({place for part in deed[1][1] for place in part_places(part)} - set(taps))
            parts += renamed(deed[1][1], {place: f"j{used + at}" for at, place in enumerate(more)})
            used += len(more)
        taps = taps_after(taps, deed)
    return (taps, tuple(parts))


def table_by_sides(net, sort):
    """The table of a net for a sort, counted over all sides."""
    return {lot: as_number(least_over_sides(net, lot, other_taps(net[0], lot))) for lot in keys_of(net[0], sort)}


def told_at(taps, sort, table, lot):
    """What a table tells of a lot, 0 for none and all taps."""
    lot = tuple(sorted(lot))
    if len(lot) in (0, len(taps)):
        return Fraction(0)
    return fraction(table[lot if sort == "leads" else plain(taps, lot)])


def slow_outside(taps, sort, table, deeds):
    """The taps and the table behind deeds, deed by deed as [112] tells."""
    for deed in deeds:
        left = taps_after(taps, deed)
        found = {}
        for lot in keys_of(left, sort):
            if deed[0] == "add":
                value = told_at(taps, sort, table, set(lot) - {deed[1]})
            elif deed[0] == "melt":
                value = told_at(taps, sort, table, {*lot, deed[2]} if deed[1] in lot else lot)
            elif deed[0] == "hide":
                value = min(told_at(taps, sort, table, lot), told_at(taps, sort, table, {*lot, deed[1]}))
            elif deed[0] == "scale":
                value = fraction(table[lot]) * fraction(deed[1])
            else:
                net = deed[1] if deed[0] == "beside" else (taps, (deed[1],))
                value = fraction(table[lot]) + least_over_sides(net, lot, other_taps(taps, lot))
            found[lot] = as_number(value)
        taps, table = left, found
    return taps, table


def drawn_table(draw, taps, sort):
    """Any table, also one that no net has."""
    return {lot: as_number(Fraction(draw.randint(-9, 20), draw.choice((1, 1, 2, 3)))) for lot in keys_of(taps, sort)}


def value_of_options(factor, choices, taps, sort, table):
    """The least, over options, of factor times the value of the lot plus more."""
    return min(fraction(factor) * (told_at(taps, sort, table, lot) if lot else 0) + fraction(more) for lot, more in choices)
