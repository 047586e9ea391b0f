"""Of a cube and what is asked of papers for it, either a paper or widths that leave none."""

from behindtaps.climbs import Climb
from behindtaps.cuts import Cutter
from behindtaps.frames import all_corners, corner_of, cost_of, face_of, lies_below, net_with_joints, spans_of
from behindtaps.frames import wide_beyond
from behindtaps.numbers import divided, over_one_bottom


class Contest:
    """The widths of the spans of a frame, of all sides together at most 1 by their costs, that let run the most.

    Each target counts with its weight what can run from the corners of its ones to those of its zeros,
    where as much as one likes runs along the directions that do not move it. This is at most the cost of
    each lot of corners that parts them. Lots are put in only when the widths found so far show that they
    are needed. If in the end no widths let run more than 1, all targets together, the weights that show
    this are those by which the lots make a paper.
    """

    def __init__(self, frame, targets, moves):
        self.corners = all_corners(len(frame[2]))
        self.spans = spans_of(frame)
        costs = [cost_of(frame, span) for span in self.spans]
        tops, _ = over_one_bottom([*costs, *[weight for _, _, weight in targets]])
        self.costs = tops[:len(costs)]
        self.weights = tops[len(costs):]
        self.cutters = cutters_for(frame, targets, moves)
        self.lots = []
        self.ascent = Climb([0] * len(costs) + self.weights)
        self.ascent.put_row(list(enumerate(self.costs)), 1)
        self.widths = [0] * len(costs)
        self.put_cuts(self.cuts_for(self.widths))
        self.ascent.go_up()

    def cuts_for(self, widths):
        return [cutter.cuts(widths) for cutter in self.cutters]

    def put_cuts(self, found):
        """Puts in the lots of corners that are told for each target."""
        for target, (_, lots) in enumerate(found):
            for lot in lots:
                self.put_lot(target, lot)

    def put_lot(self, target, lot):
        cutter = self.cutters[target]
        spans = [(at, -1) for at in range(len(self.spans)) if cutter.is_cut(at, lot)]
        self.ascent.put_row([(len(self.spans) + target, 1), *spans], 0)
        self.lots.append((target, lot))

    def holds(self):
        """Goes on until it is sure whether no widths let run more than 1; widths has such ones otherwise."""
        while self.ascent.worth() > self.ascent.whole():
            tops = self.ascent.tops()
            self.widths = tops[:len(self.spans)]
            found = self.cuts_for(self.widths)
            if self.let_run_more(found):
                return False
            for target, (cost, lots) in enumerate(found):
                if tops[len(self.spans) + target] > cost:
                    for lot in lots:
                        self.put_lot(target, lot)
            self.ascent.mend()
        return True

    def let_run_more(self, found):
        """Whether more runs through the widths, all targets together, than they cost."""
        runs = sum([weight * cost for weight, (cost, _) in zip(self.weights, found)])
        return runs > sum([width * cost for width, cost in zip(self.widths, self.costs)])

    def paper(self):
        """For each target the numbers at the corners, ascending."""
        weights = self.ascent.row_weights()
        totals = [0] * len(self.cutters)
        tops = [[0] * len(self.corners) for _ in self.cutters]
        for row, (target, lot) in enumerate(self.lots):
            weight = weights.get(row + 1, 0)
            totals[target] += weight
            tops[target] = [top + weight if inside else top for top, inside in zip(tops[target], lot)]
        return tuple([tuple([divided(top, total) for top in row]) for row, total in zip(tops, totals)])

    def told_widths(self):
        """The dict from the spans with a width above 0 to these widths, wholes."""
        found = {}
        for span, width in zip(self.spans, self.widths):
            if width > 0:
                found[span] = width
        return found


def all_moves(frame, targets):
    """For each target the directions that move it, where all do."""
    return [list(range(len(frame[2]))) for _ in targets]


def home_of(corner, moves):
    """The corner that differs from this one along no direction that is among the moves, nearest to 0."""
    return tuple([side if at in moves else 0 for at, side in enumerate(corner)])


def cutters_for(frame, targets, moves):
    """What parts the ones of each target from its zeros, along the directions alone that move it."""
    corners = all_corners(len(frame[2]))
    at = {}
    for place, corner in enumerate(corners):
        at[corner] = place
    faces = [[at[one] for one in face_of(span)] for span in spans_of(frame)]
    found = []
    for (ones, zeros, _), own in zip(targets, moves):
        homes = [at[home_of(corner, own)] for corner in corners]
        blocks = [[homes[at[corner_of(frame, tap)]] for tap in block] for block in (ones, zeros)]
        found.append(Cutter(homes, faces, frame[1], blocks[0], blocks[1]))
    return found


def can_be_parted(frame, target, moves):
    """Whether some numbers have 1 at the ones of a target and 0 at its zeros, and for leads never less above.

    Along directions that do not move the target its numbers are equal.
    """
    for one in [home_of(corner_of(frame, tap), moves) for tap in target[0]]:
        for zero in [home_of(corner_of(frame, tap), moves) for tap in target[1]]:
            if one == zero or (frame[1] == "leads" and lies_below(one, zero)):
                return False
    return True


def paper_or_net(frame, targets):
    """("holds", paper) for these targets, or ("breaks", net) in which more runs than is let."""
    word, shown = paper_or_widths(frame, targets, all_moves(frame, targets))
    if word == "holds":
        return (word, shown)
    return (word, net_with_joints(frame, shown, wide_beyond(list(shown.values()))))


def paper_or_widths(frame, targets, moves):
    """("holds", paper) for targets with their moves, or ("breaks", widths) of spans by which more runs than is let.

    If a target cannot be parted at all, no widths are needed: what joins taps of one corner, or for
    leads what leads upwards, is enough.
    """
    if not all([can_be_parted(frame, target, own) for target, own in zip(targets, moves)]):
        return ("breaks", {})
    contest = Contest(frame, targets, moves)
    if contest.holds():
        return ("holds", contest.paper())
    return ("breaks", contest.told_widths())
