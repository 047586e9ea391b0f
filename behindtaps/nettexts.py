"""The texts of nets."""

from behindtaps.errors import BadText
from behindtaps.lots import are_names, are_taps, is_name
from behindtaps.nets import MOST_PARTS, MOST_PLACES, check_net, mixes_leads_and_hubs, places_in, places_of_part
from behindtaps.numbers import number_text, read_number


def net_text(net):
    """The text of the net."""
    check_net(net)
    lines = [" ".join(["taps", *net[0]])]
    for part in net[1]:
        lines.append(" ".join([part[0], *places_of_part(part), number_text(part[-1])]))
    return "".join([line + "\n" for line in lines])


def read_net(text):
    """The net of which this is the text."""
    if not isinstance(text, str):
        raise BadText(1)
    lines = text.split("\n")
    taps = read_taps_line(lines[0])
    if taps is None:
        raise BadText(1)
    parts = []
    for at in range(1, len(lines) - 1):
        part = read_part_line(lines[at])
        if part is None or not fits_behind(taps, parts, part):
            raise BadText(at + 1)
        parts.append(part)
    if lines[-1] != "":
        raise BadText(len(lines))
    return (taps, tuple(parts))


def read_taps_line(line):
    """The taps that the line tells; None if it is no such line."""
    words = line.split(" ")
    taps = tuple(words[1:])
    if words[0] != "taps" or not are_taps(taps):
        return None
    return taps


def read_part_line(line):
    """The part that the line tells; None if it is no such line."""
    words = line.split(" ")
    width = read_number(words[-1])
    if width is None:
        return None
    places = tuple(words[1:-1])
    if words[0] == "hub":
        return ("hub", places, width) if are_names(places) and len(places) >= 2 else None
    if len(places) != 2 or not is_name(places[0]) or not is_name(places[1]):
        return None
    start, end = places
    if (words[0] == "pipe" and start < end) or (words[0] == "lead" and start != end):
        return (words[0], start, end, width)
    return None


def fits_behind(taps, parts, part):
    """Whether a net may have this part behind these ones."""
    more = [*parts, part]
    if len(more) > MOST_PARTS or mixes_leads_and_hubs(more):
        return False
    return len(places_in(taps, more)) <= MOST_PLACES
