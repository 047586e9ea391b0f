"""Works: boxes with unknown contents and pipes, joined at joints."""

from itertools import combinations

from behindtaps.errors import BadBox, BadContents, BadWork, TooMany
from behindtaps.forms import form_of, is_form, keys_of_form, taps_of_form
from behindtaps.lots import are_taps, check_lot, is_name, plain_lots_in
from behindtaps.nets import inner_in, is_net, is_part, joins_places, names_unlike, renamed_part, small_net, sort_in
from behindtaps.numbers import is_less, sum_of, sum_of_products

SEATS = ("a", "b", "c", "d")
MOST_USES = 12
MOST_INNER_JOINTS = 5
MOST_BOXES = 3


def is_work(value):
    """Whether any value is a work."""
    if not isinstance(value, tuple) or len(value) != 2:
        return False
    taps, uses = value
    if not are_taps(taps) or not isinstance(uses, tuple) or len(uses) > MOST_USES:
        return False
    if not all([is_use(use) for use in uses]):
        return False
    return len(inner_in_work(value)) <= MOST_INNER_JOINTS and len(boxes_in(value)) <= MOST_BOXES


def boxes_of(work):
    """The ascending list of the names of the boxes of the work."""
    check_work(work)
    return boxes_in(work)


def inner_joints(work):
    """The ascending list of the joints of the work that are no taps."""
    check_work(work)
    return inner_in_work(work)


def with_nets(work, nets):
    """The net that the work is with these nets in its boxes."""
    check_work(work)
    check_contents(work, nets, is_net_for_box)
    many = sum([len(inner_in(nets[use[1]])) for use in work[1] if use[0] == "box"])
    names = names_unlike([*work[0], *inner_in_work(work)], many)
    parts = []
    used = 0
    for use in work[1]:
        if use[0] == "pipe":
            parts.append(use)
            continue
        inner = inner_in(nets[use[1]])
        places = places_for(use, inner, names[used:])
        used += len(inner)
        parts.extend(parts_at(nets[use[1]][1], places))
    return small_net(work[0], tuple(parts))


def work_form(work, contents):
    """The form of the net that the work is with any nets of these forms in its boxes."""
    check_work(work)
    if work[0] != SEATS:
        raise BadWork("the taps of the work are those of a box")
    check_contents(work, contents, is_form_for_box)
    table = {}
    for lot in plain_lots_in(SEATS, "pipes"):
        table[lot] = worth_of_work(work, lot, contents)
    return form_of(SEATS, "pipes", table)


def side_sums(work, lot):
    """The list of the sums of all sides of the lot, of those with equal counts only the least width."""
    check_work(work)
    check_lot(work[0], lot)
    return sums_of_sides(work, lot)


def work_worth(work, lot, contents):
    """The wall of the lot with these contents in the boxes."""
    check_work(work)
    check_lot(work[0], lot)
    check_contents(work, contents, is_form_for_box)
    return worth_of_work(work, lot, contents)


def nested(work, name, inner):
    """The work with another work in the place of each use of a box."""
    check_work(work)
    if name not in boxes_in(work):
        raise BadBox("it is the name of a box of the work")
    if not is_work(inner) or inner[0] != SEATS:
        raise BadWork("the inner one is a work with the taps of a box")
    joints = inner_in_work(inner)
    many = len([use for use in work[1] if is_use_of(use, name)])
    names = names_unlike([*work[0], *inner_in_work(work)], many * len(joints))
    uses = []
    for use in work[1]:
        if not is_use_of(use, name):
            uses.append(use)
            continue
        uses.extend(uses_at(inner[1], places_for(use, joints, names)))
        names = names[len(joints):]
    return small_work(work[0], tuple(uses))


def is_use(value):
    """Whether any value is a use of a box or a pipe."""
    if not isinstance(value, tuple) or len(value) not in (3, 4):
        return False
    if len(value) == 4:
        return value[0] == "pipe" and is_part(value)
    kind, name, joints = value
    if kind != "box" or not is_name(name) or not isinstance(joints, tuple) or len(joints) != len(SEATS):
        return False
    return all([is_name(joint) for joint in joints])


def is_use_of(use, name):
    """Whether a use is one of the box of this name."""
    return use[0] == "box" and use[1] == name


def check_work(work):
    if not is_work(work):
        raise BadWork("a work is a pair of taps and at most 12 uses of boxes and pipes")


def boxes_in(work):
    """As boxes_of, of what is surely a work or would be one with fewer boxes."""
    return sorted(set([use[1] for use in work[1] if use[0] == "box"]))


def joints_of_use(use):
    """The joints at which a box or a pipe lies."""
    return use[2] if use[0] == "box" else use[1:3]


def inner_in_work(work):
    """As inner_joints, of what is surely a work or would be one with fewer joints."""
    return sorted(set([joint for use in work[1] for joint in joints_of_use(use) if joint not in work[0]]))


def small_work(taps, uses):
    """The work of these taps and uses, if it is not too great."""
    work = (taps, uses)
    if len(uses) > MOST_USES:
        raise TooMany(MOST_USES)
    if len(inner_in_work(work)) > MOST_INNER_JOINTS:
        raise TooMany(MOST_INNER_JOINTS)
    if len(boxes_in(work)) > MOST_BOXES:
        raise TooMany(MOST_BOXES)
    return work


def is_net_for_box(value):
    """Whether any value is a net of pipes with the taps of a box."""
    return is_net(value) and value[0] == SEATS and sort_in(value) == "pipes"


def is_form_for_box(value):
    """Whether any value is a form of a box."""
    return is_form(value) and "hub" not in value and taps_of_form(value) == SEATS


def check_contents(work, contents, fits):
    """Checks that contents is a dict from at least all boxes of the work to what fits."""
    if not isinstance(contents, dict) or not all([is_name(name) for name in contents]):
        raise BadContents("contents are a dict from names of boxes")
    if not all([fits(told) for told in contents.values()]):
        raise BadContents("contents are forms, nets are nets of pipes, with the taps a, b, c, d")
    if not all([name in contents for name in boxes_in(work)]):
        raise BadContents("contents and nets have all boxes of the work")


def places_for(use, inner, names):
    """The dict from the legs of a box to the joints of its use, and from inner places to new names."""
    places = {}
    for seat, joint in zip(SEATS, use[2]):
        places[seat] = joint
    for place, name in zip(inner, names):
        places[place] = name
    return places


def parts_at(parts, places):
    """The pipes at these places, but for those whose ends are one place."""
    moved = [renamed_part(part, places) for part in parts]
    return [part for part in moved if joins_places(part)]


def uses_at(uses, places):
    """The uses at these joints, but for pipes whose ends are one joint."""
    found = []
    for use in uses:
        if use[0] == "box":
            found.append(("box", use[1], tuple([places[joint] for joint in use[2]])))
        else:
            found.extend(parts_at([use], places))
    return found


def seven():
    """The list of what a form of a box has, in order."""
    return keys_of_form(SEATS, False)


def counts_of_use(use, side):
    """The seven counts of a use of a box for a side."""
    inside = [seat for seat, joint in zip(SEATS, use[2]) if joint in side]
    return counts_of_legs(inside)


def counts_of_legs(inside):
    """The seven counts of a box of which just these legs are in a side."""
    counts = [1 if (one in inside) != (other in inside) else 0 for one, other in combinations(list(SEATS), 2)]
    return (*counts, min(len(inside), len(SEATS) - len(inside)))


def sides_of(work, lot):
    """The list of all sides of the lot, as tuples of joints."""
    sides = [lot]
    for joint in inner_in_work(work):
        sides = sides + [side + (joint,) for side in sides]
    return sides


def sum_of_side(work, side):
    """The counts of the side, in the order of the boxes, and its width."""
    counts = []
    for name in boxes_in(work):
        told = [counts_of_use(use, side) for use in work[1] if is_use_of(use, name)]
        counts.append(tuple([sum(row) for row in zip(*told)]))
    width = sum_of([use[3] for use in work[1] if use[0] == "pipe" and (use[1] in side) != (use[2] in side)])
    return (tuple(counts), width)


def sums_of_sides(work, lot):
    """As side_sums, of what are surely a work and a lot."""
    widths = {}
    for side in sides_of(work, lot):
        counts, width = sum_of_side(work, side)
        if counts not in widths or is_less(width, widths[counts]):
            widths[counts] = width
    return [(counts, widths[counts]) for counts in sorted(widths)]


def worth_of_sum(boxes, told, contents):
    """What a sum is worth for contents: its width plus each count times its number."""
    worths = [told[1]]
    for name, counts in zip(boxes, told[0]):
        worths.append(sum_of_products(counts, [contents[name][key] for key in seven()]))
    return sum_of(worths)


def worth_of_work(work, lot, contents):
    """As work_worth, of what are surely contents of the work."""
    boxes = boxes_in(work)
    least = None
    for told in sums_of_sides(work, lot):
        worth = worth_of_sum(boxes, told, contents)
        if least is None or is_less(worth, least):
            least = worth
    return least
