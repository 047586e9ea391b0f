"""The way down to the least worth of an aim among all points that meet rows, in wholes."""

from behindtaps.numbers import divided, scaled_to_wholes
from behindtaps.tableaus import Tableau

# What is told by the rows of the tableau besides unknowns and slacks.
AIM = -1
GUARD = -2

# After so many exchanges without progress the least variables are taken, which never go in a circle.
PATIENCE = 30

# How unlike the shares are by which bounds give way.
SHARES = 1009
STEP = 617


class Descent:
    """Rows and an aim of wholes; told is "least", "endless" or "none" once the way down is gone.

    The unknowns are told by slacks once and for all; from then on only slacks are exchanged. The
    guard is a sum of the outer slacks, each with a weight above 0: it lets slacks that are below 0
    be put right one by one without ever coming back, and is left out when all rows are met.
    What each slack is where the outer ones are 0 is told by the last two entries: a whole, and a
    share of something smaller than any number, by which each bound gives way. So hardly ever two
    slacks become 0 at once, where many exchanges would go on at one point.
    """

    def __init__(self, rows, aim):
        self.many = len(aim)
        lines = [[*row[:-1], -row[-1], 1 + at * STEP % SHARES] for at, row in enumerate(rows)]
        self.table = Tableau([*lines, [*aim, 0, 0]], self.many)
        self.table.inner[-1] = AIM
        self.table.free_slacks()
        self.unknowns = [self.table.line_of(unknown)[:-1] for unknown in range(self.many)]
        self.unknown_outer = list(self.table.outer)
        self.unknown_whole = self.table.whole
        self.loose_way = self.way_of_loose()
        self.leave_unknowns()
        self.at = None
        self.column = None
        self.told = self.go()

    def go(self):
        """Goes down as far as can be, and tells how it ends."""
        self.put_guard()
        if not self.meet_all():
            return "none"
        self.leave_guard()
        if self.loose_way is not None:
            return "endless"
        return "least" if self.lower_all() else "endless"

    def way_of_loose(self):
        """The way along an unknown of which no slack hangs, but the aim does; None if there is none."""
        aim = self.table.line_of(AIM)
        for column, variable in enumerate(self.table.outer):
            if variable < self.many and aim[column] != 0:
                side = -1 if aim[column] > 0 else 1
                return [side * row[column] for row in self.unknowns]
        return None

    def leave_unknowns(self):
        """Leaves the rows and the columns of unknowns out of the tableau."""
        table = self.table
        rows = [at for at, variable in enumerate(table.inner) if variable >= self.many or variable == AIM]
        columns = [column for column, variable in enumerate(table.outer) if variable >= self.many]
        table.lines = [[table.lines[at][column] for column in [*columns, -2, -1]] for at in rows]
        table.inner = [table.inner[at] for at in rows]
        table.outer = [table.outer[column] for column in columns]

    def put_guard(self):
        # Unlike weights make it rare that two slacks are equally good to be exchanged.
        weights = [self.table.whole * (column + 1) for column in range(len(self.table.outer))]
        self.table.lines.append([*weights, 0, 0])
        self.table.inner.append(GUARD)

    def leave_guard(self):
        self.table.lines.pop()
        self.table.inner.pop()

    def meet_all(self):
        """Exchanges until no slack is below 0; False, with the row at, if this one stays so."""
        still = 0
        while True:
            self.at = self.row_below_0(still > PATIENCE)
            if self.at is None:
                return True
            self.column = self.column_above_0(self.table.lines[self.at], self.table.lines[-1])
            if self.column is None:
                return False
            still = still + 1 if self.table.lines[-1][self.column] == 0 else 0
            self.table.exchange(self.at, self.column)

    def row_below_0(self, by_number):
        """The row of the slack that is furthest below 0, or of the least variable below 0."""
        best = None
        lowest = None
        for at, variable in enumerate(self.table.inner):
            told = self.table.lines[at][-2:]
            if variable < self.many or told >= [0, 0]:
                continue
            rank = [variable] if by_number else told
            if best is None or rank < lowest:
                best = at
                lowest = rank
        return best

    def column_above_0(self, row, guard):
        """The column above 0 in the row in which the guard is the least share of it."""
        best = None
        for column, variable in enumerate(self.table.outer):
            if row[column] <= 0:
                continue
            if best is None:
                best = column
                continue
            more = guard[column] * row[best] - guard[best] * row[column]
            if more < 0 or (more == 0 and variable < self.table.outer[best]):
                best = column
        return best

    def lower_all(self):
        """Exchanges until the aim cannot go down; False, with the column, if it goes down without end."""
        still = 0
        while True:
            self.column = self.column_below_0(still > PATIENCE)
            if self.column is None:
                return True
            self.at = self.row_of_first_0(self.column)
            if self.at is None:
                return False
            still = still + 1 if self.table.lines[self.at][-2:] == [0, 0] else 0
            self.table.exchange(self.at, self.column)

    def column_below_0(self, by_number):
        """The column in which the aim is furthest below 0, or that of the least variable."""
        aim = self.aim_line()
        best = None
        lowest = None
        for column, variable in enumerate(self.table.outer):
            if aim[column] >= 0:
                continue
            rank = variable if by_number else aim[column]
            if best is None or rank < lowest:
                best = column
                lowest = rank
        return best

    def row_of_first_0(self, column):
        """The row of the slack that is the first to become 0 when the variable of the column grows."""
        best = None
        for at, variable in enumerate(self.table.inner):
            row = self.table.lines[at]
            if variable < self.many or row[column] >= 0:
                continue
            if best is None:
                best = at
                continue
            first = self.table.lines[best]
            rank = [row[-2] * -first[column], row[-1] * -first[column], variable]
            if rank < [first[-2] * -row[column], first[-1] * -row[column], self.table.inner[best]]:
                best = at
        return best

    def aim_line(self):
        return self.table.lines[self.table.inner.index(AIM)]

    def point(self):
        """The unknowns where all outer slacks are 0."""
        told = {}
        for at, variable in enumerate(self.table.inner):
            told[variable] = self.table.lines[at][-2]
        whole = self.table.whole
        tops = self.unknowns_at(told, whole)
        return tuple([divided(top, whole * self.unknown_whole) for top in tops])

    def unknowns_at(self, told, last):
        """The unknowns, times unknown_whole, for told slacks (0 for others), what is added taken last times."""
        values = [told.get(variable, 0) for variable in self.unknown_outer]
        values.append(last)
        return [sum([entry * value for entry, value in zip(row, values)]) for row in self.unknowns]

    def worth(self):
        """The worth of the aim where all outer slacks are 0."""
        return divided(self.aim_line()[-2], self.table.whole)

    def way(self):
        """A way along which no slack goes down, but the aim does."""
        if self.loose_way is not None:
            return tuple(self.loose_way)
        told = {self.table.outer[self.column]: self.table.whole}
        for at, variable in enumerate(self.table.inner):
            told[variable] = self.table.lines[at][self.column]
        wholes, _ = scaled_to_wholes(self.unknowns_at(told, 0))
        return tuple(wholes)

    def shown(self, rows):
        """The weights of so many rows that show what is told."""
        if self.told == "none":
            tops = [-entry for entry in self.table.lines[self.at]]
            told = {self.table.inner[self.at]: 1}
        else:
            tops = self.aim_line()
            told = {}
        for column, variable in enumerate(self.table.outer):
            told[variable] = divided(tops[column], self.table.whole)
        return [told.get(self.many + row, 0) for row in range(rows)]
