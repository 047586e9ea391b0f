"""What the tests of houses share: entries that a hidden net keeps, and a list led beside a house."""

from fractions import Fraction

from checking import NAMES, all_lots, as_number, drawn_net, fraction
from judging import claim_with, counted_worth
from telling import REACH

from behindtaps.facts import follows
from behindtaps.live import House

NEVER = ((), 1)


def facts_of(entries):
    """The facts that entries give, one behind the other."""
    found = []
    for word, about, told in entries:
        if word == "tell":
            found.append((about, told))
        else:
            found += [(((about, 1),), told), (((about, -1),), as_number(-fraction(told)))]
    return found


def agree(taps, sort, facts):
    return follows(taps, facts, sort, NEVER)[0] != "clash"


def put(house, entry):
    """Tells or measures what the entry says."""
    if entry[0] == "tell":
        house.tell(*entry[1:])
    else:
        house.measure(*entry[1:])


def house_of(taps, sort, entries):
    house = House(taps, sort)
    for entry in entries:
        put(house, entry)
    return house


def drawn_terms(draw, taps, many=2):
    lots = draw.sample(all_lots(taps), draw.randint(0 if draw.random() < 0.1 else 1, min(many, len(all_lots(taps)))))
    return claim_with(taps, {lot: Fraction(draw.choice((1, 1, 2, 3)), draw.choice((1, 1, 2))) * draw.choice((1, -1))
                             for lot in lots})[1]


def kept_entry(draw, net, many=2):
    """An entry that the net keeps, with slack or none."""
    if draw.random() < 0.4:
        lot = draw.choice(all_lots(net[0]))
        return ("measure", lot, as_number(counted_worth((net[0], ((lot, 1),)), net)))
    terms = drawn_terms(draw, net[0], many)
    return ("tell", terms, as_number(counted_worth((net[0], terms), net) - draw.choice((0, 0, 1, Fraction(1, 2)))))


def drawn_entry(draw, taps, many=2):
    """Any entry."""
    if draw.random() < 0.4:
        return ("measure", draw.choice(all_lots(taps)), draw.choice((0, 1, 2, 3, (1, 2), (7, 3), -1)))
    return ("tell", drawn_terms(draw, taps, many), draw.choice((-4, -1, 0, 0, 1, (1, 2), 2)))


def hidden_net(draw, sort, most=None):
    return drawn_net(draw, NAMES[:draw.randint(2, most or REACH[sort])], sort, 2, 7, draw.choice(("whole", "whole", "fraction")))


def drawn_house(draw, sort, many, most=None):
    """A net, and a house of entries that it keeps."""
    net = hidden_net(draw, sort, most)
    entries = [kept_entry(draw, net) for _ in range(draw.randint(0, many))]
    return net, house_of(net[0], sort, entries)
