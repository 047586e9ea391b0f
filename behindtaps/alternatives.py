"""The options of all lots behind deeds, and what they are worth in each kind.

Options are spoken of as a pair (factor, lists), lists a dict from each lot behind deeds to the ascending
list of its options, pairs of a lot ahead of the deeds and what is put to it.
"""

from behindtaps.deedsteps import first_options, options_behind, taps_left
from behindtaps.kinds import kinds_of, wall_in_kind
from behindtaps.lots import plain_lots_in
from behindtaps.numbers import are_numbers_from_0, is_less, plus, sum_of, sum_of_products, times


def options_of(taps, sort, deeds):
    """The options behind deeds that fit the taps and are of the sort."""
    factor = 1
    told = first_options(taps, sort)
    left = taps
    for deed in deeds:
        told = options_behind(left, sort, told, deed)
        left = taps_left(left, deed)
        if deed[0] == "scale":
            factor = times(factor, deed[1])
    lists = {}
    for lot in plain_lots_in(left, sort):
        lists[lot] = sorted_options(told[lot], factor)
    return (factor, lists)


def sorted_options(told, factor):
    """The ascending list of options, just one of them if the factor is 0."""
    if factor != 0:
        return [(lot, told[lot]) for lot in sorted(told)]
    least = None
    for more in told.values():
        if least is None or is_less(more, least):
            least = more
    return [((), least)]


def value_at(factor, choices, walls):
    """The least worth of some options for these walls."""
    least = None
    for lot, more in choices:
        value = plus(times(factor, walls[lot] if lot != () else 0), more)
        if least is None or is_less(value, least):
            least = value
    return least


def walls_in_kinds(taps, sort):
    """The dict from each plain lot, and from (), to the list of its walls in the kinds."""
    every = kinds_of(taps, sort)
    found = {(): [0] * len(every)}
    for lot in plain_lots_in(taps, sort):
        found[lot] = [wall_in_kind(kind, lot) for kind in every]
    return found


def rows_of_options(factor, choices, known):
    """For each option what it is worth in each kind alone, and at the end what is put to it."""
    return [[*[times(factor, told) for told in known[lot]], more] for lot, more in choices]


def is_mean_at_most(weights, rows, row):
    """Whether any value is weights for the rows, together 1, whose mean is nowhere above the row."""
    if not are_numbers_from_0(weights, len(rows)) or sum_of(weights) != 1:
        return False
    means = [sum_of_products(weights, [other[at] for other in rows]) for at in range(len(row))]
    return not any([is_less(entry, mean) for entry, mean in zip(row, means)])
