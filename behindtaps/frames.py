"""Cubes: corners, spans and faces, what a paper for a cube is, and nets along its spans.

A frame is what is known of a cube: (taps, sort, directions), directions a tuple of pairs of a lot and
its weight. A target is what a paper has a tuple of numbers for: a triple (ones, zeros, weight) of the
taps at whose corners the numbers are 1, of those at whose corners they are 0, and of what they count.
"""

from behindtaps.errors import TooMany
from behindtaps.nets import names_unlike
from behindtaps.numbers import are_numbers_from_0, is_less, minus, plus, sum_of, sum_of_products

MOST_DIRECTIONS = 4
MOST_DIRECTIONS_FOR_HUBS = 3


def check_directions(directions, sort):
    """Checks that a cube for the sort may have so many directions."""
    most = MOST_DIRECTIONS_FOR_HUBS if sort == "hubs" else MOST_DIRECTIONS
    if len(directions) > most:
        raise TooMany(most)


def all_corners(many):
    """The ascending list of the corners of a cube with so many directions."""
    found = [()]
    for _ in range(many):
        found = [corner + (side,) for corner in found for side in (0, 1)]
    return found


def all_spans(many, sort):
    """The ascending list of the spans of the sort in a cube with so many directions."""
    found = [(low, high) for low in all_corners(many) for high in all_corners(many)
             if low != high and lies_below(low, high)]
    if sort == "hubs":
        return found
    return [span for span in found if len(directions_along(span)) == 1]


def lies_below(low, high):
    """Whether low is 0 wherever high is; the two may be one corner."""
    return all([one <= other for one, other in zip(low, high)])


def directions_along(span):
    """The directions along which the span goes."""
    low, high = span
    return [at for at in range(len(low)) if low[at] != high[at]]


def face_of(span):
    """The ascending list of the corners of the face of the span; of an edge these are its two ends."""
    low, high = span
    return [corner for corner in all_corners(len(low)) if lies_below(low, corner) and lies_below(corner, high)]


def spans_of(frame):
    """The ascending list of the spans of the frame."""
    _, sort, directions = frame
    return all_spans(len(directions), sort)


def cost_of(frame, span):
    """The sum of the weights of the directions along which the span goes."""
    return sum_of([frame[2][at][1] for at in directions_along(span)])


def corner_of(frame, tap):
    return tuple([1 if tap in lot else 0 for lot, _ in frame[2]])


def corners_of(frame):
    """The dict from each tap to its corner."""
    found = {}
    for tap in frame[0]:
        found[tap] = corner_of(frame, tap)
    return found


def is_paper_of(frame, targets, value):
    """Whether any value is a paper for these targets."""
    if not isinstance(value, tuple) or len(value) != len(targets):
        return False
    if not all([are_numbers_at_corners(frame, target, numbers) for target, numbers in zip(targets, value)]):
        return False
    weights = [weight for _, _, weight in targets]
    at = {}
    for place, corner in enumerate(all_corners(len(frame[2]))):
        at[corner] = place
    for span in spans_of(frame):
        face = [at[corner] for corner in face_of(span)]
        steps = [step_along(frame[1], [numbers[one] for one in face]) for numbers in value]
        if any([step is None for step in steps]) or is_less(cost_of(frame, span), sum_of_products(weights, steps)):
            return False
    return True


def are_numbers_at_corners(frame, target, value):
    """Whether any value is a tuple of numbers from 0 to 1 for all corners, as the target asks at those of taps."""
    corners = all_corners(len(frame[2]))
    if not are_numbers_from_0(value, len(corners)) or any([is_less(1, told) for told in value]):
        return False
    ones = [corner_of(frame, tap) for tap in target[0]]
    zeros = [corner_of(frame, tap) for tap in target[1]]
    for corner, told in zip(corners, value):
        if (corner in ones and told != 1) or (corner in zeros and told != 0):
            return False
    return True


def step_along(sort, numbers):
    """How much the numbers at the corners of a face, ascending, are apart; None for leads that go down."""
    least = numbers[0]
    greatest = numbers[0]
    for told in numbers:
        least = told if is_less(told, least) else least
        greatest = told if is_less(greatest, told) else greatest
    if sort == "leads" and least != numbers[0]:
        return None
    return minus(greatest, least)


def places_of_corners(frame):
    """The dict from each corner to its place: the first tap that has it, or a name that is no tap."""
    corners = all_corners(len(frame[2]))
    found = {}
    for corner, name in zip(corners, names_unlike(frame[0], len(corners))):
        found[corner] = name
    for tap in list(frame[0])[::-1]:
        found[corner_of(frame, tap)] = tap
    return found


def wide_beyond(widths):
    """A width beyond that of all of these together."""
    return plus(1, sum_of(widths))


def parts_along(frame, widths, wide):
    """The parts that lie along the spans of these widths; the leads back have the width wide."""
    places = places_of_corners(frame)
    parts = []
    for span in spans_of(frame):
        width = widths.get(span, 0)
        if width != 0:
            parts.append(part_along(frame[1], [places[corner] for corner in face_of(span)], width))
    if frame[1] == "leads":
        parts.extend([("lead", places[low], places[high], wide) for low, high in spans_of(frame)])
    return parts


def part_along(sort, places, width):
    """The part that joins the places of a face, which are in the order of its corners."""
    if sort == "hubs":
        return ("hub", tuple(sorted(places)), width)
    if sort == "leads":
        return ("lead", places[1], places[0], width)
    return ("pipe", min(places), max(places), width)


def net_with_joints(frame, widths, wide):
    """The net along the spans in which all taps of one corner are joined, by pipes of the width wide.

    Nothing that parts the cube parts such taps, so this takes from no wall of a direction; what runs to
    one of them runs to all, if wide is beyond all widths.
    """
    return (frame[0], tuple([*parts_along(frame, widths, wide), *joints_of(frame, wide)]))


def joints_of(frame, wide):
    """The pipes of the width wide that join each tap with the place of its corner, if it is another tap."""
    places = places_of_corners(frame)
    joints = []
    for tap in frame[0]:
        place = places[corner_of(frame, tap)]
        if place != tap:
            joints.append(("pipe", place, tap, wide))
    return joints
