"""Equal sums: as many of them as unknowns, which leave just one choice."""

from behindtaps.numbers import divided, over_one_bottom
from behindtaps.tableaus import Tableau


def solution(rows):
    """The list of the numbers of which the sum of each row of wholes is just its bound, a number."""
    bounds, bottom = over_one_bottom([bound for _, bound in rows])
    table = Tableau([[*row[0], -bound] for row, bound in zip(rows, bounds)], len(rows))
    table.free_slacks()
    tops = [table.line_of(unknown)[-1] for unknown in range(len(rows))]
    return [divided(top, table.whole * bottom) for top in tops]
