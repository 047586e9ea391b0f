"""Rows in wholes, rewritten so that some of their variables are told by the others."""


class Tableau:
    """What rows say of their unknowns and of their slacks, a slack being a row's sum less its bound.

    Variables are numbered: the unknowns first, then the slack of each row. Some are outer: they are
    free, and each line of entries tells one of the others, an inner one: whole times it is the sum of
    entry times outer variable, and what stands behind these entries. All entries stay wholes, because
    each of them is a determinant made of the first entries, and whole, which stays above 0, is one, too.
    """

    def __init__(self, lines, many):
        """Lines of wholes tell the slacks: so many coefficients, and what is to be added."""
        self.many = many
        self.whole = 1
        self.outer = list(range(many))
        self.inner = [many + at for at in range(len(lines))]
        self.lines = lines

    def exchange(self, at, column):
        """The inner variable of the row becomes outer, and the outer one of the column inner."""
        lead = self.lines[at][column]
        side = 1 if lead > 0 else -1
        row = [side * entry for entry in self.lines[at]]
        self.lines = [self.rewritten(line, row, column, side) for line in self.lines]
        self.lines[at] = [-entry for entry in row]
        self.lines[at][column] = side * self.whole
        self.whole = side * lead
        self.inner[at], self.outer[column] = self.outer[column], self.inner[at]

    def rewritten(self, entries, row, column, side):
        """The entries when the variable of the column is told by the row."""
        lead = row[column]
        whole = self.whole
        share = entries[column]
        if share == 0:
            if lead == whole:
                return entries
            return [entry * lead // whole for entry in entries]
        told = [(entry * lead - share * other) // whole for entry, other in zip(entries, row)]
        told[column] = side * share
        return told

    def free_slacks(self):
        """Makes each unknown inner for which some slack can become outer."""
        for column in range(self.many):
            at = self.slack_row_with(column)
            if at is not None:
                self.exchange(at, column)

    def slack_row_with(self, column):
        """The row of a slack with the smallest entry in the column that is not 0; None if there is none."""
        best = None
        for at, entries in enumerate(self.lines):
            size = abs(entries[column])
            if self.inner[at] < self.many or size == 0:
                continue
            if best is None or size < abs(self.lines[best][column]):
                best = at
        return best

    def line_of(self, variable):
        """The entries that tell the variable, an outer one by itself."""
        if variable in self.inner:
            return self.lines[self.inner.index(variable)]
        behind = len(self.lines[0]) - len(self.outer)
        return [self.whole if other == variable else 0 for other in self.outer] + [0] * behind
