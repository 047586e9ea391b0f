"""Which sums of sides are needed, and sums and contents as rows of numbers."""

from behindtaps.coverings import below_or_covered
from behindtaps.works import boxes_in, seven, sums_of_sides


def needed_in(work, lot):
    """The list of the sums of sides of the lot that are needed, ascending by counts."""
    boxes = boxes_in(work)
    left = sums_of_sides(work, lot)
    for told in list(left):
        others = [other for other in left if other != told]
        rows = [row_of(other, boxes, boxes) for other in others]
        # What the others cover is nowhere missed, so the next ones need not be looked at beside it.
        if below_or_covered(row_of(told, boxes, boxes), rows)[0] == "covered":
            left = others
    return left


def row_of(told, own, boxes):
    """The counts of a sum for its own boxes, written over more boxes, and behind them its width."""
    found = {}
    for name, counts in zip(own, told[0]):
        found[name] = counts
    row = []
    for name in boxes:
        row.extend(found.get(name, (0,) * len(seven())))
    return [*row, told[1]]


def contents_at(point, boxes):
    """The contents of boxes of which these are the numbers, seven for each box."""
    keys = seven()
    found = {}
    for at, name in enumerate(boxes):
        form = {}
        for key, told in zip(keys, point[at * len(keys):(at + 1) * len(keys)]):
            form[key] = told
        found[name] = form
    return found
