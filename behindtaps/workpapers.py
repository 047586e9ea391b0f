"""For chosen sums of greater terms, either a paper or contents that break.

Unknowns: for each lesser term what it is worth, at most each of its needed sums; then the numbers of the
boxes; then how often widths and bounds are counted. So all rows but the last one ask for 0: what they
leave goes on without an end or is 0.
"""

from behindtaps.climbs import Climb
from behindtaps.numbers import are_numbers_from_0, is_less, minus, plus, quotient, scaled_to_wholes, sum_of
from behindtaps.numbers import sum_of_products, times, turned


def kept_or_clash(told, many):
    """("kept", point): so many numbers of the boxes, which keep what is told; or ("clash", factors)."""
    climb = Climb([0] * many + [1])
    scales = put_told(climb, told, 0)
    put_end(climb, many + 1)
    climb.go_up()
    if climb.worth() == 0:
        return ("clash", tuple(weights_of(climb, 0, scales)))
    tops = climb.tops()
    return ("kept", tuple([quotient(top, tops[-1]) for top in tops[:-1]]))


def paper_or_break(chosen, lesser, told, kept):
    """("paper", (means, factors)), or ("breaks", point): numbers that keep what is told, as those called kept do.

    That a lesser term is worth at most one of its sums is put in only when a point shows that it is needed.
    """
    weights = [weight for _, weight in lesser]
    aim, scale = scaled_to_wholes([*weights, *[turned(entry) for entry in chosen]])
    climb = Climb(aim)
    told_scales = put_told(climb, told, len(lesser))
    put_end(climb, len(aim))
    climb.go_up()
    start = climb.rows
    bounds = []
    while climb.worth() > 0:
        tops = climb.tops()
        point = tops[len(lesser):]
        least = [least_sum_at(rows, point) for rows, _ in lesser]
        worths = [worth for worth, _ in least]
        if is_less(sum_of_products(chosen, point), sum_of_products(weights, worths)):
            return ("breaks", breaking_point(point, chosen, sum_of_products(weights, worths), kept))
        for at, (worth, place) in enumerate(least):
            if is_less(worth, tops[at]):
                bounds.append((at, place, put_lesser(climb, lesser[at][0][place], at, len(lesser))))
        climb.mend()
    shares = weights_of(climb, start, [own for _, _, own in bounds])
    means = [mean_of(at, len(rows), bounds, shares) for at, (rows, _) in enumerate(lesser)]
    factors = [quotient(weight, scale) for weight in weights_of(climb, 0, told_scales)]
    return ("paper", (tuple(means), tuple(factors)))


def least_sum_at(rows, point):
    """The least worth of the rows at a point, and the place of a row with it."""
    worths = [sum_of_products(row, point) for row in rows]
    best = 0
    for at, worth in enumerate(worths):
        if is_less(worth, worths[best]):
            best = at
    return worths[best], best


def put_lesser(climb, row, at, many):
    """Puts in that the lesser term of this number, of so many, is worth at most this sum; the row's scale."""
    own = [1 if at == other else 0 for other in range(many)]
    tops, scale = scaled_to_wholes([*own, *[turned(entry) for entry in row]])
    climb.put_row(list(enumerate(tops)), 0)
    return scale


def put_told(climb, told, many):
    """Puts in what is told, behind so many other unknowns; the rows' scales."""
    scales = []
    for row, bound in told:
        tops, scale = scaled_to_wholes([*[turned(entry) for entry in row], bound])
        climb.put_row([(many + at, top) for at, top in enumerate(tops)], 0)
        scales.append(scale)
    return scales


def put_end(climb, many):
    """Puts in that all unknowns, so many, come to at most 1."""
    climb.put_row([(at, 1) for at in range(many)], 1)


def weights_of(climb, start, scales):
    """The list of the weights of the rows from this one on that have these scales."""
    weights = climb.row_weights()
    return [times(quotient(weights.get(start + at, 0), climb.whole()), scale) for at, scale in enumerate(scales)]


def mean_of(term, many, bounds, shares):
    """The weights of so many sums of the lesser term of this number, together 1, of the shares of what was put in."""
    found = [0] * many
    for (at, place, _), share in zip(bounds, shares):
        if at == term:
            found[place] = plus(found[place], share)
    total = sum_of(found)
    return tuple([quotient(weight, total) for weight in found])


def breaking_point(point, chosen, lost, kept):
    """Numbers of the boxes that break, of a point at which the lesser terms come to more than what is chosen."""
    numbers = point[:-1]
    if point[-1] > 0:
        return tuple([quotient(top, point[-1]) for top in numbers])
    # The numbers alone lead below 0; they are put to kept ones so often that nothing else counts.
    gain = minus(lost, sum_of_products(chosen[:-1], numbers))
    often = plus(1, quotient(plus(sum_of_products(chosen[:-1], kept), chosen[-1]), gain))
    return tuple([plus(entry, times(often, top)) for entry, top in zip(kept, numbers)])


def is_paper_for(chosen, lesser, told, value):
    """Whether any value is a pair of means and factors for these chosen sums."""
    if not isinstance(value, tuple) or len(value) != 2:
        return False
    means, factors = value
    if not isinstance(means, tuple) or len(means) != len(lesser) or not are_numbers_from_0(factors, len(told)):
        return False
    if not all([is_mean(mean, len(rows)) for mean, (rows, _) in zip(means, lesser)]):
        return False
    # Each number of the boxes, and at the end the widths with the bounds, is asked for alike.
    for at, entry in enumerate(chosen):
        asked = [times(weight, sum_of_products(mean, [row[at] for row in rows]))
                 for mean, (rows, weight) in zip(means, lesser)]
        shared = sum_of_products(factors, [told_at(fact, at) for fact in told])
        if is_less(entry, plus(sum_of(asked), shared)):
            return False
    return True


def is_mean(value, many):
    """Whether any value is a tuple of so many numbers from 0 on, together 1."""
    return are_numbers_from_0(value, many) and sum_of(value) == 1


def told_at(fact, at):
    """What the factor of something told counts at a number of the boxes, or behind them at the widths."""
    row, bound = fact
    return row[at] if at < len(row) else turned(bound)
