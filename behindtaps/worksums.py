"""The sums of works that are needed, and what always holds of works, whatever their boxes contain."""

from behindtaps.coverings import below_or_covered
from behindtaps.errors import BadCounts, BadWork
from behindtaps.lots import check_lot, plain_lots_in
from behindtaps.neededsums import contents_at, needed_in, row_of
from behindtaps.numbers import is_whole
from behindtaps.workpapers import is_paper_for, kept_or_clash, paper_or_break
from behindtaps.works import boxes_in, check_work, is_work, seven, sums_of_sides
from behindtaps.workterms import boxes_spoken_of, check_told, check_work_terms, choices_of, chosen_row, spoken_terms
from behindtaps.workterms import spoken_told


def least_sums(work, lot):
    """The list of the sums that are needed, ascending by counts."""
    check_work(work)
    check_lot(work[0], lot)
    return needed_in(work, lot)


def sum_verdict(work, lot, counts):
    """Contents that need the sum with these counts, or weights of the needed sums by which they cover it."""
    check_work(work)
    check_lot(work[0], lot)
    sums = sums_of_sides(work, lot)
    told = sum_with(sums, counts)
    needed = needed_in(work, lot)
    if told in needed:
        # Contents that need the sum leave it below all the other ones, not only below the needed ones.
        others = [other for other in sums if other != told]
    else:
        others = needed
    boxes = boxes_in(work)
    word, shown = below_or_covered(row_of(told, boxes, boxes), [row_of(other, boxes, boxes) for other in others])
    if word == "below":
        return ("needed", contents_at(shown, boxes))
    return ("covered", shown)


def always(terms, told=()):
    """A paper, which shows that terms of works hold for all contents that keep what is told, or what breaks them."""
    check_work_terms(terms)
    check_told(told)
    boxes = boxes_spoken_of([work for (work, _), _ in terms], told)
    greater = spoken_terms(terms, boxes, 1)
    choices = choices_of(greater)
    rows = spoken_told(told, boxes)
    many = len(boxes) * len(seven())
    word, shown = kept_or_clash(rows, many)
    if word == "clash":
        return (word, shown)
    lesser = spoken_terms(terms, boxes, -1)
    papers = []
    for choice in choices:
        kind, piece = paper_or_break(chosen_row(greater, choice, many + 1), lesser, rows, shown)
        if kind == "breaks":
            return (kind, contents_at(piece, boxes))
        papers.append(piece)
    return ("holds", tuple(papers))


def is_always_paper(terms, told, value):
    """Whether any value is a paper for terms of works and what is told."""
    check_work_terms(terms)
    check_told(told)
    boxes = boxes_spoken_of([work for (work, _), _ in terms], told)
    greater = spoken_terms(terms, boxes, 1)
    choices = choices_of(greater)
    if not isinstance(value, tuple) or len(value) != len(choices):
        return False
    lesser = spoken_terms(terms, boxes, -1)
    rows = spoken_told(told, boxes)
    many = len(boxes) * len(seven())
    return all([is_paper_for(chosen_row(greater, choice, many + 1), lesser, rows, piece)
                for choice, piece in zip(choices, value)])


def told_apart(first, second):
    """A lot and contents for which its walls are unlike in the two works; None if there are none."""
    check_work(first)
    if not is_work(second) or second[0] != first[0]:
        raise BadWork("the second one is a work with the taps of the first")
    boxes = boxes_spoken_of([first, second], [])
    for lot in plain_lots_in(first[0], "pipes"):
        point = point_apart(rows_in(first, lot, boxes), rows_in(second, lot, boxes))
        if point is not None:
            return (lot, contents_at(point, boxes))
    return None


def needless_boxes(work):
    """The ascending list of the boxes on which no wall hangs."""
    check_work(work)
    return needless_boxes_in(work)


def needless_pipes(work):
    """The ascending list of the places of the pipes each of which can be left out alone."""
    check_work(work)
    return [at for at in range(len(work[1])) if is_needless_pipe(work, at)]


def thinned(work):
    """The work without the boxes and pipes that are needless, pipes left out one by one."""
    check_work(work)
    needless = needless_boxes_in(work)
    left = (work[0], tuple([use for use in work[1] if use[0] == "pipe" or use[1] not in needless]))
    at = 0
    while at < len(left[1]):
        if is_needless_pipe(left, at):
            left = without_use(left, at)
        else:
            at += 1
    return left


def sum_with(sums, counts):
    """The one of the sums that has these counts, of any value."""
    if isinstance(counts, tuple) and all([isinstance(row, tuple) and all([is_whole(many) for many in row])
                                          for row in counts]):
        for told in sums:
            if told[0] == counts:
                return told
    raise BadCounts("counts are those of a sum of the lot")


def rows_in(work, lot, boxes):
    """The sums of the lot as rows over these boxes."""
    own = boxes_in(work)
    return [row_of(told, own, boxes) for told in sums_of_sides(work, lot)]


def point_apart(first, second):
    """Numbers of the boxes for which the least sums of two lists are unlike; None if there are none."""
    for some, others in ((first, second), (second, first)):
        point = point_below(some, others)
        if point is not None:
            return point
    return None


def point_below(some, others):
    """Numbers of the boxes for which one of some sums is below all the others; None if there are none."""
    for row in some:
        word, shown = below_or_covered(row, others)
        if word == "below":
            return shown
    return None


def needless_boxes_in(work):
    """As needless_boxes, of what is surely a work."""
    boxes = boxes_in(work)
    counted = [False] * len(boxes)
    for lot in plain_lots_in(work[0], "pipes"):
        if all(counted):
            return []
        for counts, _ in needed_in(work, lot):
            counted = [one or any([many > 0 for many in row]) for one, row in zip(counted, counts)]
    return [name for name, one in zip(boxes, counted) if not one]


def without_use(work, at):
    """The work without the use of this number."""
    return (work[0], work[1][:at] + work[1][at + 1:])


def is_needless_pipe(work, at):
    """Whether the use of this number is a pipe without which all walls stay for all contents."""
    if work[1][at][0] != "pipe":
        return False
    boxes = boxes_in(work)
    left = without_use(work, at)
    for lot in plain_lots_in(work[0], "pipes"):
        # What is left out makes no side wider, so only what is left can be below.
        if point_below(rows_in(left, lot, boxes), rows_in(work, lot, boxes)) is not None:
            return False
    return True
