"""The cube of a claim: its corners, its spans, papers for the claim, and nets along its spans."""

from behindtaps.claims import check_claim, greater_terms, lesser_terms, plain_in
from behindtaps.errors import BadWidths
from behindtaps.frames import all_corners, check_directions, corners_of, is_paper_of, parts_along, places_of_corners
from behindtaps.frames import spans_of, wide_beyond
from behindtaps.lots import check_sort, opposite_in
from behindtaps.numbers import is_number_from_0, is_whole


def corners(claim, sort):
    """The ascending list of the corners of the cube."""
    return all_corners(len(frame_for(claim, sort)[2]))


def tap_corners(claim, sort):
    """The dict from each tap to its corner."""
    return corners_of(frame_for(claim, sort))


def spans(claim, sort):
    """The ascending list of the spans of the sort."""
    return spans_of(frame_for(claim, sort))


def is_paper(claim, sort, value):
    """Whether any value is a paper for the claim and the sort."""
    frame = frame_for(claim, sort)
    return is_paper_of(frame, targets_of(claim, sort), value)


def cube_places(claim, sort):
    """The dict from each corner to its place: the first tap that has it, or a name that is no tap."""
    return places_of_corners(frame_for(claim, sort))


def cube_net(claim, sort, widths):
    """The net along the spans of the cube that has these widths."""
    frame = frame_for(claim, sort)
    if not isinstance(widths, dict) or not all([is_span_of(frame, span) for span in widths]):
        raise BadWidths("widths is a dict from spans of the sort")
    if not all([is_number_from_0(width) for width in widths.values()]):
        raise BadWidths("widths are numbers from 0 on")
    return (claim[0], tuple(parts_along(frame, widths, wide_beyond(list(widths.values())))))


def frame_for(claim, sort):
    """The frame of the cube of what should be a claim and a sort."""
    check_claim(claim)
    check_sort(sort)
    return frame_of(claim, sort)


def frame_of(claim, sort):
    """The frame of the cube, if it does not have too many directions."""
    directions = greater_terms(plain_in(claim, sort))
    check_directions(directions, sort)
    return (claim[0], sort, directions)


def targets_of(claim, sort):
    """What a paper for the claim has numbers for: the lesser terms of the plain form."""
    return [(lot, opposite_in(claim[0], lot), weight) for lot, weight in lesser_terms(plain_in(claim, sort))]


def is_span_of(frame, value):
    """Whether any value is a span of the frame; True and False are no sides of a corner."""
    if not isinstance(value, tuple):
        return False
    if not all([isinstance(corner, tuple) and all([is_whole(side) for side in corner]) for corner in value]):
        return False
    return value in spans_of(frame)
