"""Exact inequalities: rows of numbers, points that meet them, weights that show what follows from them."""

from behindtaps.descents import Descent
from behindtaps.errors import BadAim, BadPoint, BadRows
from behindtaps.numbers import are_numbers, are_numbers_from_0, is_less, is_number, quotient, scaled_to_wholes
from behindtaps.numbers import sum_of_products, times, top_of

MOST_ROWS = 200
MOST_UNKNOWNS = 80


def solved(rows):
    """A point that meets the rows, or weights that show that there is none."""
    check_rows(rows)
    told = lowest(rows, (0,) * unknowns_of(rows))
    if told[0] == "none":
        return ("weights", told[1])
    return ("point", told[2])


def least(rows, aim):
    """The least worth of the aim at a point that meets the rows, and what shows it."""
    check_rows(rows)
    check_aim(rows, aim)
    return lowest(rows, aim)


def is_solved(rows, value):
    """Whether any value is an answer as solved gives it."""
    check_rows(rows)
    if not isinstance(value, tuple) or len(value) != 2:
        return False
    word, shown = value
    if word == "point":
        return are_numbers(shown, unknowns_of(rows)) and meets(rows, shown)
    return word == "weights" and are_weights_of_none(rows, shown)


def is_least(rows, aim, value):
    """Whether any value is an answer as least gives it."""
    check_rows(rows)
    check_aim(rows, aim)
    if not isinstance(value, tuple) or len(value) == 0:
        return False
    if value[0] == "least" and len(value) == 4:
        return is_shown_least(rows, aim, value[1:])
    if value[0] == "endless" and len(value) == 3:
        return is_shown_endless(rows, aim, value[1:])
    return value[0] == "none" and len(value) == 2 and are_weights_of_none(rows, value[1])


def tight(rows, point):
    """The indices of the rows whose sum at the point is just the bound."""
    check_rows(rows)
    check_point(rows, point)
    return tuple([at for at, (coefficients, bound) in enumerate(rows)
                  if sum_of_products(coefficients, point) == bound])


def check_rows(rows):
    if not are_rows(rows):
        raise BadRows("rows are at most 200 pairs of equally many coefficients, 1 to 80, and a bound")


def check_aim(rows, aim):
    many = unknowns_of(rows) if len(rows) > 0 else length_of(aim)
    if not 1 <= many <= MOST_UNKNOWNS or not are_numbers(aim, many):
        raise BadAim("an aim is a tuple of numbers, 1 to 80, as many as there are unknowns")


def check_point(rows, point):
    many = unknowns_of(rows) if len(rows) > 0 else length_of(point)
    if not are_numbers(point, many) or not meets(rows, point):
        raise BadPoint("a point is a tuple of a number for each unknown that meets all rows")


def are_rows(value):
    """Whether any value is rows."""
    if not isinstance(value, (list, tuple)) or len(value) > MOST_ROWS:
        return False
    if len(value) == 0:
        return True
    if not all([isinstance(row, tuple) and len(row) == 2 for row in value]):
        return False
    many = length_of(value[0][0])
    if not 1 <= many <= MOST_UNKNOWNS:
        return False
    return all([are_numbers(coefficients, many) and is_number(bound) for coefficients, bound in value])


def length_of(value):
    """How many items any value has if it is a tuple, otherwise 0."""
    return len(value) if isinstance(value, tuple) else 0


def unknowns_of(rows):
    """How many unknowns the rows speak of, 0 if there are no rows."""
    return len(rows[0][0]) if len(rows) > 0 else 0


def meets(rows, point):
    """Whether so many numbers as there are unknowns meet the rows."""
    return not any([is_less(sum_of_products(coefficients, point), bound) for coefficients, bound in rows])


def come_to(rows, weights, many):
    """What the weights come to: the tuple for so many unknowns, and the bound."""
    sums = [sum_of_products(weights, [row[0][at] for row in rows]) for at in range(many)]
    return tuple(sums), sum_of_products(weights, [row[1] for row in rows])


def are_weights_of_none(rows, value):
    """Whether any value is weights which show that no point meets the rows."""
    if not are_numbers_from_0(value, len(rows)):
        return False
    sums, bound = come_to(rows, value, unknowns_of(rows))
    return top_of(bound) > 0 and sums == (0,) * unknowns_of(rows)


def is_shown_least(rows, aim, value):
    """Whether a value, a point and weights show that the value is the least worth."""
    worth, point, weights = value
    if not is_number(worth) or not are_numbers(point, len(aim)) or not are_numbers_from_0(weights, len(rows)):
        return False
    if not meets(rows, point) or sum_of_products(aim, point) != worth:
        return False
    sums, bound = come_to(rows, weights, len(aim))
    return sums == aim and bound == worth


def is_shown_endless(rows, aim, value):
    """Whether a point and a way show that the worth goes down without an end."""
    point, way = value
    if not are_numbers(point, len(aim)) or not are_numbers(way, len(aim)) or not meets(rows, point):
        return False
    if any([top_of(sum_of_products(coefficients, way)) < 0 for coefficients, _ in rows]):
        return False
    return top_of(sum_of_products(aim, way)) < 0


def lowest(rows, aim):
    """As least, of any number of what are surely rows, for what is surely an aim."""
    row_tops = []
    row_scales = []
    for coefficients, bound in rows:
        tops, scale = scaled_to_wholes([*coefficients, bound])
        row_tops.append(tops)
        row_scales.append(scale)
    aim_tops, aim_scale = scaled_to_wholes(aim)
    descent = Descent(row_tops, aim_tops)
    if descent.told == "endless":
        return ("endless", descent.point(), descent.way())
    weights = [times(weight, scale) for weight, scale in zip(descent.shown(len(rows)), row_scales)]
    if descent.told == "none":
        return ("none", tuple(weights))
    value = quotient(descent.worth(), aim_scale)
    return ("least", value, descent.point(), tuple([quotient(weight, aim_scale) for weight in weights]))
