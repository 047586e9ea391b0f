"""Names, taps, lots of taps, sorts."""

from itertools import combinations

from behindtaps.errors import BadLot, BadSort, BadTaps

LETTERS = "abcdefghijklmnopqrstuvwxyz"
LETTERS_AND_DIGITS = "abcdefghijklmnopqrstuvwxyz0123456789"
LONGEST_NAME = 8
FEWEST_TAPS = 2
MOST_TAPS = 6
SORTS = ("pipes", "leads", "hubs")


def lots(taps):
    """The ascending list of all lots of the taps."""
    check_taps(taps)
    return lots_in(taps)


def plain_lots(taps, sort):
    """The ascending list of the lots that are told apart by nets of the sort."""
    check_taps(taps)
    check_sort(sort)
    return plain_lots_in(taps, sort)


def opposite(taps, lot):
    """The taps that are not in the lot."""
    check_taps(taps)
    check_lot(taps, lot)
    return opposite_in(taps, lot)


def plain_lot(taps, lot):
    """The one of the lot and its opposite that stands for both."""
    check_taps(taps)
    check_lot(taps, lot)
    return plain_lot_in(taps, lot)


def is_name(value):
    """Whether any value is a name."""
    if not isinstance(value, str) or not 1 <= len(value) <= LONGEST_NAME:
        return False
    return value[0] in LETTERS and all([sign in LETTERS_AND_DIGITS for sign in value])


def are_names(value):
    """Whether any value is an ascending tuple of unlike names, which may be empty."""
    if not isinstance(value, tuple) or not all([is_name(name) for name in value]):
        return False
    return all([one < other for one, other in zip(value, value[1:])])


def are_taps(value):
    """Whether any value is taps."""
    return are_names(value) and FEWEST_TAPS <= len(value) <= MOST_TAPS


def is_lot(taps, value):
    """Whether any value is a lot of the taps."""
    return are_names(value) and 1 <= len(value) < len(taps) and all([name in taps for name in value])


def check_taps(taps):
    if not are_taps(taps):
        raise BadTaps("taps are a tuple of 2 to 6 unlike names, ascending")


def check_lot(taps, lot):
    if not is_lot(taps, lot):
        raise BadLot("a lot is an ascending tuple of some of the taps, not of all")


def check_sort(sort):
    if not isinstance(sort, str) or sort not in SORTS:
        raise BadSort("a sort is pipes, leads or hubs")


def lots_in(taps):
    """As lots, of what are surely taps."""
    return sorted([lot for many in range(1, len(taps)) for lot in combinations(list(taps), many)])


def opposite_in(taps, lot):
    """As opposite, of what are surely taps and a lot."""
    return tuple([tap for tap in taps if tap not in lot])


def plain_lot_in(taps, lot):
    """As plain_lot, of what are surely taps and a lot."""
    if 2 * len(lot) < len(taps) or (2 * len(lot) == len(taps) and lot[0] == taps[0]):
        return lot
    return opposite_in(taps, lot)


def plain_lots_in(taps, sort):
    """As plain_lots, of what are surely taps and a sort."""
    if sort == "leads":
        return lots_in(taps)
    return [lot for lot in lots_in(taps) if plain_lot_in(taps, lot) == lot]
