"""The greatest sum under linear limits, by the simplex method in integers."""

from fairmasks.amounts import ZERO, fraction


class Table:
    """The unknowns, from 0 on, with the greatest sum of cost times unknown.

    Each of the rows, a list of integers, limits the sum of integer times
    unknown: to at most its limit, an integer from 0 on. The sum has to have a
    greatest worth. What a row leaves below its limit is an unknown, too, its
    slack. All cells are integers over one bottom, which is that of no cell in
    lowest terms but makes each step an exact division.
    """

    def __init__(self, rows, limits, costs):
        self.cells = [row + [limit] for row, limit in zip(rows, limits)]
        self.cells.append([-cost for cost in costs] + [0])
        self.bottom = 1
        # The unknowns that are 0, one for each column, and those that each row tells.
        self.zeros = list(range(len(costs)))
        self.told = [len(costs) + at for at in range(len(rows))]
        self.many = len(costs)
        column = self.column_to_enter()
        while column is not None:
            self.turn(self.row_to_leave(column), column)
            column = self.column_to_enter()

    def column_to_enter(self):
        """The column of the first unknown that makes the sum greater, or None.

        To take the first one, and also the first one to leave, never goes round in a circle.
        """
        costs = self.cells[-1]
        found = [(unknown, at) for at, unknown in enumerate(self.zeros) if costs[at] < 0]
        return min(found)[1] if found else None

    def row_to_leave(self, column):
        """The row that limits the unknown of a column most, of several the one of the first unknown."""
        best = None
        for at, unknown in enumerate(self.told):
            row = self.cells[at]
            if row[column] > 0:
                by = 0 if best is None else row[-1] * self.cells[best][column] - self.cells[best][-1] * row[column]
                if best is None or by < 0 or (by == 0 and unknown < self.told[best]):
                    best = at
        return best

    def turn(self, at, column):
        """Let a row tell the unknown of a column, and the one that it told be 0."""
        pivot = self.cells[at]
        by = pivot[column]
        for other in range(len(self.cells)):
            if other != at:
                self.cells[other] = turned_row(self.cells[other], pivot, column, self.bottom)
        self.cells[at] = pivot[:column] + [self.bottom] + pivot[column + 1:]
        self.bottom = by
        self.told[at], self.zeros[column] = self.zeros[column], self.told[at]

    def greatest(self):
        """The greatest sum."""
        return fraction(self.cells[-1][-1], self.bottom)

    def worths(self):
        """The list of the unknowns, without the slacks."""
        found = [ZERO for _ in range(self.many)]
        for at, unknown in enumerate(self.told):
            if unknown < self.many:
                found[unknown] = fraction(self.cells[at][-1], self.bottom)
        return found

    def prices(self):
        """The list of how much the greatest sum grows with the limit of each row."""
        found = [ZERO for _ in self.told]
        for at, unknown in enumerate(self.zeros):
            if unknown >= self.many:
                found[unknown - self.many] = fraction(self.cells[-1][at], self.bottom)
        return found


def turned_row(row, pivot, column, bottom):
    """Another row behind a turn by a pivot row in a column."""
    by = pivot[column]
    factor = row[column]
    if factor == 0 and by == bottom:
        return row
    found = [(cell * by - factor * one) // bottom for cell, one in zip(row, pivot)]
    found[column] = -factor
    return found
