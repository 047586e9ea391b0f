"""Journals: the lines by which a house was led."""

from behindtaps.errors import BadText, Clash, NoEntry, TooMany
from behindtaps.houserows import LEADING_ROWS, change_row, house_row, lead, lots_of_row, read_row
from behindtaps.live import House
from behindtaps.lots import is_lot


def journal_text(house):
    """The journal of all that changed the house."""
    return text_of(house, house.log())


def entries_text(house):
    """The journal of the entries of the house."""
    return text_of(house, house.entries())


def played(text):
    """The new house to which all was done that the lines tell."""
    if not isinstance(text, str):
        raise BadText(1)
    lines = text.split("\n")
    first = read_row(lines[0])
    if first is None or first[0] != "house":
        raise BadText(1)
    house = House(first[2], first[1])
    for at in range(1, len(lines) - 1):
        if not is_led(house, lines[at]):
            raise BadText(at + 1)
    if lines[-1] != "":
        raise BadText(len(lines))
    return house


def text_of(house, changes):
    """The journal of some changes of the house."""
    return "".join([row + "\n" for row in [house_row(house), *[change_row(house, change) for change in changes]]])


def is_led(house, line):
    """Does what the line tells; False if it is no row that leads this house, or cannot be done."""
    told = read_row(line)
    if told is None or told[0] not in LEADING_ROWS or not all([is_lot(house.taps, lot) for lot in lots_of_row(told)]):
        return False
    try:
        lead(house, told)
    except (TooMany, Clash, NoEntry):
        return False
    return True
