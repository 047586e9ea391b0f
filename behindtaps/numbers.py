"""Exact numbers: a whole, or a pair (top, bottom) in lowest terms with a bottom above 1."""

from math import gcd, lcm

from behindtaps.errors import BadNumber

MOST_DIGITS = 30
DIGITS = "0123456789"


def is_whole(value):
    """Whether any value is a whole; True and False are none."""
    return isinstance(value, int) and not isinstance(value, bool)


def is_number(value):
    """Whether any value is a number."""
    if is_whole(value):
        return True
    if not isinstance(value, tuple) or len(value) != 2:
        return False
    top, bottom = value
    return is_whole(top) and is_whole(bottom) and bottom >= 2 and gcd(top, bottom) == 1


def number(top, bottom):
    """The number that is worth top divided by bottom."""
    if not is_whole(top) or not is_whole(bottom) or bottom == 0:
        raise BadNumber("top and bottom are wholes, and bottom is not 0")
    return divided(top, bottom)


def divided(top, bottom):
    """The number that is worth one whole divided by another one that is not 0."""
    common = gcd(top, bottom)
    if bottom < 0:
        common = -common
    if bottom == common:
        return top // common
    return (top // common, bottom // common)


def is_number_from_0(value):
    """Whether any value is a number that is not below 0."""
    return is_number(value) and top_of(value) >= 0


def are_numbers(values, many):
    """Whether any value is a tuple of so many numbers."""
    return isinstance(values, tuple) and len(values) == many and all([is_number(value) for value in values])


def are_numbers_from_0(values, many):
    """Whether any value is a tuple of so many numbers that are not below 0."""
    return are_numbers(values, many) and all([top_of(value) >= 0 for value in values])


def top_of(value):
    """The top of a number; it has the sign of the number."""
    return value[0] if isinstance(value, tuple) else value


def bottom_of(value):
    """The bottom of a number, 1 for a whole."""
    return value[1] if isinstance(value, tuple) else 1


def plus(one, other):
    """The sum of two numbers."""
    if isinstance(one, int) and isinstance(other, int):
        return one + other
    top = top_of(one) * bottom_of(other) + top_of(other) * bottom_of(one)
    return divided(top, bottom_of(one) * bottom_of(other))


def turned(value):
    """The number with its sign turned."""
    return (-value[0], value[1]) if isinstance(value, tuple) else -value


def minus(one, other):
    """One number less another one."""
    return plus(one, turned(other))


def times(one, other):
    """The product of two numbers."""
    if isinstance(one, int) and isinstance(other, int):
        return one * other
    return divided(top_of(one) * top_of(other), bottom_of(one) * bottom_of(other))


def quotient(one, other):
    """One number divided by another one that is not 0."""
    return divided(top_of(one) * bottom_of(other), bottom_of(one) * top_of(other))


def is_less(one, other):
    """Whether one number is worth less than another one."""
    return top_of(one) * bottom_of(other) < top_of(other) * bottom_of(one)


def over_one_bottom(values):
    """Wholes, one for each number, and the bottom over which each of them is worth its number."""
    bottom = 1
    for value in values:
        bottom = lcm(bottom, bottom_of(value))
    return [top_of(value) * (bottom // bottom_of(value)) for value in values], bottom


def scaled_to_wholes(values):
    """Wholes without a common divisor, as a list, and the number above 0 by which values are multiplied."""
    tops, bottom = over_one_bottom(values)
    common = 0
    for top in tops:
        common = gcd(common, top)
    if common == 0:
        return tops, 1
    return [top // common for top in tops], divided(bottom, common)


def sum_of(values):
    """The sum of numbers."""
    tops, bottom = over_one_bottom(values)
    return divided(sum(tops), bottom)


def sum_of_products(some, others):
    """The sum of each number times the one in the same place of the others."""
    tops, bottom = over_one_bottom(some)
    other_tops, other_bottom = over_one_bottom(others)
    return divided(sum([one * other for one, other in zip(tops, other_tops)]), bottom * other_bottom)


def number_text(value):
    """How a number from 0 on is written: as a whole, or as top, a stroke, bottom."""
    if isinstance(value, tuple):
        return f"{value[0]}/{value[1]}"
    return str(value)


def read_number(text):
    """The number from 0 on that is written so; None if none is."""
    top_text, stroke, bottom_text = text.partition("/")
    top = read_whole(top_text)
    if not stroke or top is None:
        return top
    bottom = read_whole(bottom_text)
    if bottom is None or not is_number((top, bottom)):
        return None
    return (top, bottom)


def read_whole(text):
    """The whole that is written in digits, without zeros ahead; None if none is."""
    if not 1 <= len(text) <= MOST_DIGITS or not all([sign in DIGITS for sign in text]):
        return None
    if len(text) > 1 and text[0] == "0":
        return None
    return int(text)
