"""Which lot holds a number down, or which weights lift it without end, told by a table that is turned step by step.

Given are loads, lists with a whole number for each value, and limits, a list with a whole number for each value. A
number t may be lifted as long as weights from 0 on are found such that at each value t is at most the sum of the limit
and of the loads there, each multiplied with its weight. Either t is lifted without end; then the weights that lift it
make the loads sum to more than 0 at each value. Or it ends at the mean of the limits for some lot for which no load
has a mean above 0; of such lots this one then has the least mean of the limits, since t is at most that of each.
"""

from firstmeans.ratios import Ratio


class Table:
    """Rows that tell the variables inside by those outside, which are 0.

    All variables but t must stay from 0 on. At first only t can grow; so it is the first one to come inside, up to the
    least limit, and stays there, since all further turns lift it.

    The variables are numbered: 0 is t, 1 and so on are the weights, and behind them stand the slacks, one for each
    value. A row [first, others..] says that its variable is the first number less the sum of the others, each
    multiplied with the variable outside in its column, all over the unit; the last row tells t likewise. All numbers
    of the rows are integers at each step: they are minors of the first rows (Edmonds), so // leaves no rest.
    """

    def __init__(self, loads, limits):
        self.rows = [[limit, 1] + [-load[place] for load in loads] for place, limit in enumerate(limits)]
        self.rows.append([0, -1] + [0] * len(loads))
        self.unit = 1
        # No variable stands outside in column 0, that of the first numbers.
        self.outside = [None] + list(range(len(loads) + 1))
        self.inside = [len(loads) + 1 + place for place in range(len(limits))]

    def rising(self):
        """The column of the variable of the least number by which t grows, or None."""
        found = None
        for column, held in enumerate(self.rows[-1]):
            if column > 0 and held < 0 and (found is None or self.outside[column] < self.outside[found]):
                found = column
        return found

    def stopping(self, column):
        """The row whose variable is the first one that reaches 0 if that of a column grows, or None."""
        found = None
        for row in range(len(self.inside)):
            if self.rows[row][column] > 0 and (found is None or self.is_sooner(row, found, column)):
                found = row
        return found

    def is_sooner(self, row, other, column):
        """Whether the variable of a row reaches 0 ahead of that of another one; equal ones go by their numbers."""
        one = self.rows[row][0] * self.rows[other][column]
        another = self.rows[other][0] * self.rows[row][column]
        return one < another or (one == another and self.inside[row] < self.inside[other])

    def turn(self, row, column):
        """Let the variable of a row and that of a column change their places."""
        turning = self.rows[row]
        fresh = []
        for place, held in enumerate(self.rows):
            if place == row:
                moved = list(held)
                moved[column] = self.unit
            else:
                moved = [
                    (number * turning[column] - held[column] * other) // self.unit
                    for number, other in zip(held, turning)
                ]
                moved[column] = -held[column]
            fresh.append(moved)
        self.rows = fresh
        self.unit = turning[column]
        self.inside[row], self.outside[column] = self.outside[column], self.inside[row]

    def lot(self):
        """The shares that hold t down: of the slacks outside, by how much each would lower it."""
        many = len(self.inside)
        shares = [Ratio(0)] * many
        start = len(self.outside) - 1
        for column, variable in enumerate(self.outside):
            if column > 0 and variable >= start:
                shares[variable - start] = Ratio(self.rows[-1][column], self.unit)
        return shares

    def lifting(self, column):
        """The weights that grow, and by how much, as the variable of a column grows, which nothing stops."""
        weights = [Ratio(0)] * (len(self.outside) - 1)
        if self.outside[column] < len(weights):
            weights[self.outside[column]] = Ratio(1)
        for row, variable in enumerate(self.inside):
            if variable < len(weights):
                weights[variable] = Ratio(-self.rows[row][column], self.unit)
        return weights[1:]


def lot_or_weights(loads, limits):
    """A tuple (lot, None) of the lot that holds t down, or (None, weights) of those that lift it without end."""
    table = Table(loads, limits)
    column = table.rising()
    # Always taking the variable of the least number never leads back to rows that were there before (Bland).
    while column is not None:
        row = table.stopping(column)
        if row is None:
            return None, table.lifting(column)
        table.turn(row, column)
        column = table.rising()
    return table.lot(), None
