"""Rows about the widths of the spans of a cube and about what runs through it for each of some lots."""

from behindtaps.contests import all_moves, can_be_parted, cutters_for
from behindtaps.frames import directions_along, net_with_joints, spans_of, wide_beyond
from behindtaps.lots import opposite_in
from behindtaps.numbers import over_one_bottom, plus, top_of


class CubeWidths:
    """Unknowns: the width of each span, then for each lesser lot how much is counted to run from it.

    The wall of a greater lot is at most what the widths of the spans along its direction come to. What
    runs from a lesser lot is at most the cost of each lot of corners that parts it from its opposite; if
    nothing parts the two, as much runs as one likes.
    """

    def __init__(self, taps, sort, greater, lesser):
        self.frame = (taps, sort, tuple([(lot, 1) for lot in greater]))
        self.directions = greater
        self.targets = lesser
        self.spans = spans_of(self.frame)
        self.many = len(self.spans) + len(lesser)
        asked = [(lot, opposite_in(taps, lot), 1) for lot in lesser]
        moves = all_moves(self.frame, asked)
        self.parted = [at for at, target in enumerate(asked) if can_be_parted(self.frame, target, moves[at])]
        self.cutters = cutters_for(self.frame, [asked[at] for at in self.parted], moves)

    def row(self, terms):
        """The coefficients of terms: those above 0 count what runs from their lots, the others widths."""
        told = [0] * self.many
        for lot, weight in terms:
            for at in self.unknowns_for(lot, top_of(weight) > 0):
                told[at] = plus(told[at], weight)
        return tuple(told)

    def unknowns_for(self, lot, runs):
        """The unknown for what runs from the lot, or those for the widths along its direction."""
        if runs:
            return [len(self.spans) + self.targets.index(lot)]
        direction = self.directions.index(lot)
        return [at for at, span in enumerate(self.spans) if direction in directions_along(span)]

    def first_rows(self):
        """The rows that ask that no unknown is below 0, and for each lesser lot that can be parted one or two lots."""
        rows = [(tuple([1 if at == other else 0 for other in range(self.many)]), 0) for at in range(self.many)]
        for at, (_, lots) in zip(self.parted, self.cuts_for([0] * len(self.spans))):
            rows.extend(self.rows_of_cuts(at, lots))
        return rows

    def broken_rows(self, point):
        """Rows that this point does not meet: lots of corners that cost less than what is counted to run."""
        tops, _ = over_one_bottom(point)
        rows = []
        for at, (cost, lots) in zip(self.parted, self.cuts_for(tops[:len(self.spans)])):
            if tops[len(self.spans) + at] > cost:
                rows.extend(self.rows_of_cuts(at, lots))
        return rows

    def cuts_for(self, widths):
        return [cutter.cuts(widths) for cutter in self.cutters]

    def rows_of_cuts(self, at, lots):
        """The rows that ask that no more runs from the lesser lot of this number than these lots of corners cost."""
        cutter = self.cutters[self.parted.index(at)]
        rows = []
        for lot in lots:
            row = [1 if cutter.is_cut(span, lot) else 0 for span in range(len(self.spans))]
            rows.append((tuple([*row, *[-1 if at == other else 0 for other in range(len(self.targets))]]), 0))
        return rows

    def net(self, point):
        """The net along the spans with these widths, in which as much runs from each lesser lot as is counted."""
        widths = {}
        for span, width in zip(self.spans, point):
            widths[span] = width
        return net_with_joints(self.frame, widths, wide_beyond(point))
