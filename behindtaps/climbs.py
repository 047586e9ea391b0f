"""The way up to the greatest worth of an aim, in wholes, where rows can be put in on the way."""

from behindtaps.tableaus import Tableau

# What is told by the first row of the tableau.
AIM = -1

# After so many exchanges without progress the least variables are taken, which never go in a circle.
PATIENCE = 30

# How unlike the shares are by which bounds give way.
SHARES = 1009
STEP = 617


class Climb:
    """Unknowns from 0 on, and rows: the sum of coefficient times unknown is nowhere above the row's bound.

    As in Descent, what each variable is where the outer ones are 0 is told by the last two entries:
    a whole, and a share of something smaller than any number, by which each bound gives way.
    """

    def __init__(self, aim):
        self.many = len(aim)
        self.rows = 0
        self.table = Tableau([[*aim, 0, 0]], self.many)
        self.table.inner[0] = AIM

    def put_row(self, coefficients, bound):
        """Puts in a row of pairs (unknown, coefficient); rows are numbered from 0."""
        table = self.table
        share = 1 + self.rows * STEP % SHARES
        line = [0] * len(table.outer) + [bound * table.whole, share * table.whole]
        for unknown, coefficient in coefficients:
            line = [entry - coefficient * other for entry, other in zip(line, table.line_of(unknown))]
        table.lines.append(line)
        table.inner.append(self.many + self.rows)
        self.rows += 1

    def go_up(self):
        """Exchanges until the aim cannot go up; the rows are met, and leave it an end."""
        still = 0
        while True:
            column = self.column_above_0(still > PATIENCE)
            if column is None:
                return
            at = self.row_of_first_0(column)
            still = still + 1 if self.table.lines[at][-2:] == [0, 0] else 0
            self.table.exchange(at, column)

    def mend(self):
        """Exchanges until all rows are met; the aim cannot go up before, and cannot behind it."""
        still = 0
        while True:
            at = self.row_below_0(still > PATIENCE)
            if at is None:
                return
            column = self.column_of_least_loss(self.table.lines[at])
            still = still + 1 if self.table.lines[0][column] == 0 else 0
            self.table.exchange(at, column)

    def column_above_0(self, by_number):
        """The column in which the aim is furthest above 0, or that of the least variable; None if there is none."""
        aim = self.table.lines[0]
        best = None
        for column, variable in enumerate(self.table.outer):
            if aim[column] <= 0:
                continue
            if best is None or (variable < self.table.outer[best] if by_number else aim[column] > aim[best]):
                best = column
        return best

    def row_of_first_0(self, column):
        """The row of the variable that is the first to become 0 when that of the column grows."""
        best = None
        for at, row in enumerate(self.table.lines):
            if at == 0 or row[column] >= 0:
                continue
            if best is None:
                best = at
                continue
            first = self.table.lines[best]
            rank = [row[-2] * -first[column], row[-1] * -first[column], self.table.inner[at]]
            if rank < [first[-2] * -row[column], first[-1] * -row[column], self.table.inner[best]]:
                best = at
        return best

    def row_below_0(self, by_number):
        """The row of the variable that is furthest below 0, or of the least one below 0; None if there is none."""
        best = None
        lowest = None
        for at, row in enumerate(self.table.lines):
            told = row[-2:]
            if at == 0 or told >= [0, 0]:
                continue
            rank = [self.table.inner[at]] if by_number else told
            if best is None or rank < lowest:
                best = at
                lowest = rank
        return best

    def column_of_least_loss(self, row):
        """The column above 0 in the row in which the aim loses the least."""
        aim = self.table.lines[0]
        best = None
        for column, variable in enumerate(self.table.outer):
            if row[column] <= 0:
                continue
            if best is None:
                best = column
                continue
            more = aim[best] * row[column] - aim[column] * row[best]
            if more < 0 or (more == 0 and variable < self.table.outer[best]):
                best = column
        return best

    def tops(self):
        """The unknowns where all outer variables are 0, each times whole."""
        told = [0] * self.many
        for variable, row in zip(self.table.inner, self.table.lines):
            if 0 <= variable < self.many:
                told[variable] = row[-2]
        return told

    def whole(self):
        return self.table.whole

    def worth(self):
        """The worth of the aim where all outer variables are 0, times whole."""
        return self.table.lines[0][-2]

    def row_weights(self):
        """The dict from rows to wholes above 0: so many times the rows, divided by whole, show the worth."""
        found = {}
        for variable, entry in zip(self.table.outer, self.table.lines[0]):
            if variable >= self.many and entry < 0:
                found[variable - self.many] = -entry
        return found
