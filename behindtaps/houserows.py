"""Rows of words, by which a house is led and asked."""

from behindtaps.claims import greater_terms, lesser_terms, summed
from behindtaps.claimtexts import read_names, read_sides, side_text
from behindtaps.lots import SORTS, are_taps
from behindtaps.numbers import number_text, read_number, top_of, turned

PLAIN_ROWS = ("back", "again", "count", "journal")
LEADING_ROWS = ("tell", "measure", "back", "again")


def read_row(row):
    """What a string tells if it is a row: a tuple of its first word and of what stands behind it; None otherwise."""
    if row in PLAIN_ROWS:
        return (row,)
    word, _, words = row.partition(" ")
    if word == "house":
        return read_house(words)
    if word == "range":
        names = read_names(words)
        return None if names is None else (word, names)
    if word == "measure":
        return read_measure(words)
    return read_sum(word, words) if word in ("tell", "ask") else None


def read_house(words):
    """("house", sort, taps), or None."""
    sort, _, names = words.partition(" ")
    taps = read_names(names)
    if sort not in SORTS or not are_taps(taps):
        return None
    return ("house", sort, taps)


def read_measure(words):
    """("measure", names, number), or None."""
    text, _, number = words.partition(" = ")
    names = read_names(text)
    told = read_signed(number)
    if names is None or told is None:
        return None
    return ("measure", names, told)


def read_sum(word, words):
    """The word, the list of the terms as they stand, and the bound, or None."""
    sides, _, number = words.rpartition(" by ")
    terms = read_sides(sides)
    bound = read_signed(number)
    if terms is None or bound is None:
        return None
    return (word, terms, bound)


def read_signed(text):
    """The number that is written so, with a stroke ahead if it is below 0; None if none is."""
    if not text.startswith("-"):
        return read_number(text)
    told = read_number(text[1:])
    return None if told is None or told == 0 else turned(told)


def lots_of_row(told):
    """The list of the lots in what a row tells."""
    if told[0] in ("tell", "ask"):
        return [lot for lot, _ in told[1]]
    return [told[1]] if told[0] in ("measure", "range") else []


def lead(house, told):
    """Does with the house what a row tells that leads it."""
    if told[0] == "tell":
        house.tell(summed(house.taps, told[1])[1], told[2])
    elif told[0] == "measure":
        house.measure(told[1], told[2])
    elif told[0] == "back":
        house.back()
    else:
        house.again()


def signed_text(value):
    """How a number is written, with a stroke ahead if it is below 0."""
    if top_of(value) < 0:
        return "-" + number_text(turned(value))
    return number_text(value)


def house_row(house):
    """The row that begins a house like this one."""
    return " ".join(["house", house.of_sort, *house.taps])


def change_row(house, change):
    """The row of something that changed the house."""
    if len(change) == 1:
        return change[0]
    word, about, told = change
    if word == "measure":
        return " ".join(["measure", *about, "=", signed_text(told)])
    claim = (house.taps, about)
    return f"tell {side_text(greater_terms(claim))} >= {side_text(lesser_terms(claim))} by {signed_text(told)}"
