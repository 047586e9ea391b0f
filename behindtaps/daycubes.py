"""The cube of a day claim: papers that show that it holds in all stories of a trend, and stories that break it.

What is spoken of is a triple (frame, days, lesser): the frame of the cube, the day of each direction, and
the lesser terms of the plain form.
"""

from behindtaps.contests import home_of, paper_or_widths
from behindtaps.cubes import is_span_of
from behindtaps.days import TRENDS, check_day_claim, check_trend, last_day, plain_days_in
from behindtaps.errors import BadWidths, TooMany
from behindtaps.frames import all_corners, all_spans, directions_along, is_paper_of, joints_of, parts_along
from behindtaps.frames import places_of_corners, wide_beyond
from behindtaps.lots import check_sort, opposite_in
from behindtaps.numbers import is_number_from_0, top_of, turned

MOST_DIRECTIONS_OF_DAYS = 3
MOST_LESSER_OF_DAYS = 3


def is_day_paper(claim, sort, trend, value):
    """Whether any value is a day paper for the day claim, the sort and the trend."""
    check_day_claim(claim)
    check_sort(sort)
    check_trend(trend)
    frame, days, lesser = cube_of_days(claim, sort)
    if not is_paper_of(frame, targets_of_days(claim, lesser), value):
        return False
    corners = all_corners(len(days))
    for moves, numbers in zip(moves_for(trend, days, lesser), value):
        told = dict(zip(corners, numbers))
        if any([told[corner] != told[home_of(corner, moves)] for corner in corners]):
            return False
    return True


def day_verdict(claim, sort, trend):
    """A day paper, which shows that the day claim holds in all stories of the trend and sort, or one that breaks it."""
    check_day_claim(claim)
    check_sort(sort)
    check_trend(trend)
    cube = cube_of_days(claim, sort)
    frame = cube[0]
    word, shown = decided_days(claim, cube, trend)
    if word == "holds":
        return (word, shown)
    wide = wide_beyond(list(shown.values()))
    return (word, story_of(claim, cube, trend, shown, joints_of(frame, wide)))


def cube_story(claim, sort, trend, widths):
    """The story along the spans of the cube that has these widths."""
    check_day_claim(claim)
    check_sort(sort)
    check_trend(trend)
    cube = cube_of_days(claim, sort)
    if not isinstance(widths, dict) or not all([is_span_of(cube[0], span) for span in widths]):
        raise BadWidths("widths is a dict from spans of the cube, only edges but for hubs")
    if not all([is_number_from_0(width) for width in widths.values()]):
        raise BadWidths("widths are numbers from 0 on")
    return story_of(claim, cube, trend, widths, [])


def trends_of(claim, sort):
    """The list of the trends for which there is a day paper."""
    check_day_claim(claim)
    check_sort(sort)
    cube = cube_of_days(claim, sort)
    return [trend for trend in TRENDS if decided_days(claim, cube, trend)[0] == "holds"]


def cube_of_days(claim, sort):
    """What is spoken of, if the plain form has few terms."""
    terms = plain_days_in(claim, sort)[1]
    greater = [term for term in terms if top_of(term[1]) > 0]
    lesser = [(key, turned(weight)) for key, weight in terms if top_of(weight) < 0]
    if len(greater) > MOST_DIRECTIONS_OF_DAYS:
        raise TooMany(MOST_DIRECTIONS_OF_DAYS)
    if len(lesser) > MOST_LESSER_OF_DAYS:
        raise TooMany(MOST_LESSER_OF_DAYS)
    frame = (claim[0], sort, tuple([(lot, weight) for (_, lot), weight in greater]))
    return (frame, [day for (day, _), _ in greater], lesser)


def targets_of_days(claim, lesser):
    """What a day paper has numbers for."""
    return [(lot, opposite_in(claim[0], lot), weight) for (_, lot), weight in lesser]


def is_moved(trend, own, day):
    """Whether a direction of its own day moves a lesser term of this day; otherwise it is bypassed on this day."""
    if trend == "closed":
        return own <= day
    if trend == "opened":
        return own >= day
    return trend == "same" or own == day


def moves_for(trend, days, lesser):
    """For each lesser term the directions that move it."""
    return [[at for at, own in enumerate(days) if is_moved(trend, own, day)] for (day, _), _ in lesser]


def decided_days(claim, cube, trend):
    """A day paper, or widths of spans along which a story breaks the day claim."""
    frame, days, lesser = cube
    return paper_or_widths(frame, targets_of_days(claim, lesser), moves_for(trend, days, lesser))


def story_of(claim, cube, trend, widths, more):
    """The story along the spans of these widths, with more parts that stay on all days."""
    frame, days, _ = cube
    wide = wide_beyond(list(widths.values()))
    parts = parts_along(frame, widths, wide)
    story = []
    for day in range(last_day(claim) + 1):
        story.append((claim[0], tuple([*parts, *bypasses(frame, days, trend, day, wide), *more])))
    return tuple(story)


def bypasses(frame, days, trend, day, wide):
    """For each edge of the cube the pipe along it, which has the width wide where its direction is bypassed."""
    places = places_of_corners(frame)
    parts = []
    for span in all_spans(len(days), "pipes"):
        width = 0 if is_moved(trend, days[directions_along(span)[0]], day) else wide
        ends = sorted([places[corner] for corner in span])
        parts.append(("pipe", ends[0], ends[1], width))
    return parts
