"""What the tests of works share: drawn works and contents, and the document's words, worked out slowly."""

import itertools
from fractions import Fraction

from checking import all_lots, as_number, drawn_number, fraction, other_taps
from judging import ABCD, least_over_sides

SEVEN = [*itertools.combinations(ABCD, 2), "cross"]
INNER = ("x", "y", "z", "n0", "w")


def drawn_work(draw, taps, inner=2, boxes=2, uses=4, kind="whole", pipes=0.4):
    """A work with at most so many inner joints and boxes and just so many uses."""
    joints = [*taps, *INNER[:inner]]
    found = []
    for _ in range(uses):
        if draw.random() < pipes or boxes == 0:
            start, end = sorted(draw.sample(joints, 2))
            found.append(("pipe", start, end, drawn_number(draw, kind)))
        else:
            found.append(("box", ("k", "l", "m")[draw.randrange(boxes)], tuple(draw.choice(joints) for _ in range(4))))
    return (taps, tuple(found))


def work_boxes(work):
    return sorted({use[1] for use in work[1] if use[0] == "box"})


def work_joints(work):
    return sorted({*work[0], *(joint for use in work[1] for joint in (use[2] if use[0] == "box" else use[1:3]))})


def drawn_form(draw, kind=None):
    """Any form of a box."""
    kind = kind or draw.choice(("whole", "fraction"))
    return {key: 0 if draw.random() < 0.3 else drawn_number(draw, kind) for key in SEVEN}


def drawn_contents(draw, names, kind=None):
    return {name: drawn_form(draw, kind) for name in names}


def net_with_form(form):
    """A net of pipes with this form, of its own making."""
    parts = [("pipe", *key, width) for key, width in form.items() if key != "cross"]
    return (ABCD, tuple(parts + [("pipe", tap, "n0", form["cross"]) for tap in ABCD]))


def use_counts(joints, side):
    """The seven counts of a use of a box whose legs lie at these joints."""
    inside = [joint in side for joint in joints]
    pairs = [int(inside[one] != inside[other]) for one, other in itertools.combinations(range(4), 2)]
    return pairs + [min(sum(inside), 4 - sum(inside))]


def slow_sums(work, lot):
    """The dict from counts to the least width, over all sides of the lot, by [93]."""
    inner = [joint for joint in work_joints(work) if joint not in work[0]]
    found = {}
    for many in range(len(inner) + 1):
        for more in itertools.combinations(inner, many):
            side = {*lot, *more}
            counts = {name: [0] * 7 for name in work_boxes(work)}
            width = Fraction(0)
            for use in work[1]:
                if use[0] == "box":
                    counts[use[1]] = [one + other for one, other in zip(counts[use[1]], use_counts(use[2], side))]
                elif (use[1] in side) != (use[2] in side):
                    width += fraction(use[3])
            key = tuple(tuple(counts[name]) for name in sorted(counts))
            found[key] = min(found.get(key, width), width)
    return found


def sum_worth(names, counts, width, contents):
    """What a sum is worth for contents."""
    total = Fraction(width)
    for name, row in zip(names, counts):
        total += sum(many * fraction(contents[name][key]) for many, key in zip(row, SEVEN))
    return total


def slow_worth(work, lot, contents):
    """The least worth over all sides."""
    names = work_boxes(work)
    return min(sum_worth(names, counts, width, contents) for counts, width in slow_sums(work, lot).items())


def box_worth(form, lot):
    """The wall of a box for a lot of its legs."""
    counts = use_counts(ABCD, set(lot))
    return sum((many * fraction(form[key]) for many, key in zip(counts, SEVEN)), Fraction(0))


def keeps_told(contents, told):
    """Whether contents keep what is told."""
    return all(sum((fraction(weight) * box_worth(contents[name], lot) for (name, lot), weight in facts), Fraction(0))
               >= fraction(bound) for facts, bound in told)


def terms_worth(terms, contents):
    """The sum of weight times wall of terms of works."""
    return sum((fraction(weight) * slow_worth(work, lot, contents) for (work, lot), weight in terms), Fraction(0))


def form_faults(form):
    """What is wrong with a form that is returned for a box."""
    if list(form) != SEVEN:
        return ["keys"]
    return [key for key, told in form.items() if fraction(told) < 0]


def contents_faults(contents, names):
    """What is wrong with contents that are returned for just these boxes."""
    if list(contents) != sorted(names):
        return ["names"]
    return [name for name, form in contents.items() if form_faults(form)]


def slow_walls_of(net):
    """All walls of a net, counted over all sides."""
    return {lot: as_number(least_over_sides(net, lot, other_taps(net[0], lot))) for lot in all_lots(net[0])}


def changed_pieces(value, others=(None, True, -1, "B", (2, 4), [], ())):
    """The value with one piece, at any depth of its tuples, exchanged for each of the others, left out, or a list."""
    if not isinstance(value, tuple):
        for other in others:
            yield other
        return
    yield list(value)
    yield value + (value[-1:] or (1,))
    for at, piece in enumerate(value):
        yield value[:at] + value[at + 1:]
        for other in changed_pieces(piece, others):
            yield value[:at] + (other,) + value[at + 1:]
