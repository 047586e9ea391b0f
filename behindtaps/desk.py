"""A desk, which answers rows of words about one house."""

from behindtaps.claims import summed
from behindtaps.errors import Clash, NoEntry, TooMany
from behindtaps.houserows import LEADING_ROWS, lead, lots_of_row, read_row, signed_text
from behindtaps.journals import journal_text
from behindtaps.live import House
from behindtaps.lots import is_lot


class Desk:
    """Leads one house at a time, None at first."""

    def __init__(self):
        self.house = None

    def say(self, row):
        """What the desk answers to any value."""
        told = read_row(row) if isinstance(row, str) else None
        if told is None:
            return "wrong"
        if told[0] == "house":
            self.house = House(told[2], told[1])
            return "done"
        if self.house is None:
            return "no house"
        if not all([is_lot(self.house.taps, lot) for lot in lots_of_row(told)]):
            return "wrong"
        try:
            return answer_of(self.house, told)
        except TooMany:
            return "too many"
        except Clash:
            return "clash"
        except NoEntry:
            return "none"


def answer_of(house, told):
    """What is answered to what a row tells, if no error comes."""
    word = told[0]
    if word in LEADING_ROWS:
        lead(house, told)
        return "done"
    if word == "range":
        return range_text(house.range_of(told[1]))
    if word == "ask":
        answer = house.follows(summed(house.taps, told[1])[1], told[2])
        return "yes" if answer[0] == "follows" else "no"
    return journal_text(house) if word == "journal" else str(len(house))


def range_text(ends):
    """How a range is written."""
    low, high = ends
    if high is None:
        return f"{signed_text(low)} or more"
    return f"{signed_text(low)} to {signed_text(high)}"
