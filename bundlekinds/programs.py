"""Linear programs, solved in integers alone."""

from math import gcd

from bundlekinds.errors import BadBound, BadCount


class Tableau:
    """A linear program, told by the columns that its rows determine.

    Each row has a column of its own that takes up what its bound leaves. So the columns are the bounds, one for each
    row, and one for each worth. As many of them as there are rows are the basis: each line tells the amount of one of
    these, if all other amounts are 0, and how it falls with the others. All items are to be divided by the scale. The
    line of the gains tells the worth of the mix in the same way.
    """

    def __init__(self, rows, bounds, worths):
        self.many = len(rows)
        self.basis = [at + 1 for at in range(self.many)]
        self.lines = [first_line(at, bounds, row) for at, row in enumerate(rows)]
        self.gains = [0] * (self.many + 1) + [-worth for worth in worths]
        self.scale = 1

    def entering(self):
        """Return the column that adds most to the worth for its amount, or None if no column adds anything."""
        least = min(self.gains)
        if least >= 0:
            return None
        return self.gains.index(least)

    def leaving(self, column):
        """Return the line that first falls to 0 if the amount of the column grows, or None if no line falls."""
        found = None
        for at in range(self.many):
            if self.lines[at][column] > 0 and (found is None or self.is_sooner(at, found, column)):
                found = at
        return found

    def is_sooner(self, at, other, column):
        """Tell whether one line falls to 0 sooner than another one.

        If they do at once, the columns of the rows decide, as if each row had a tiny bit more than its bound, and
        each a much tinier one than the row before it. So no two lines ever fall to 0 at once, each turn makes the
        worth greater, if only by such bits, and no basis comes a second time.
        """
        one = [item * self.lines[other][column] for item in self.lines[at][:self.many + 1]]
        two = [item * self.lines[at][column] for item in self.lines[other][:self.many + 1]]
        return one < two

    def turn(self, at, column):
        """Let the column take the place in the basis that the line has told so far."""
        line = self.lines[at]
        self.lines = [line if k == at else self.cleared(other, line, column) for k, other in enumerate(self.lines)]
        self.gains = self.cleared(self.gains, line, column)
        self.basis[at] = column
        self.scale = line[column]

    def cleared(self, other, line, column):
        """Return the other line without the column, in the scale that the turn leads to.

        Every item is, but for its sign, a determinant of items of the program; so the division leaves no remainder.
        """
        factor = other[column]
        pivot = line[column]
        return [(item * pivot - factor * taken) // self.scale for item, taken in zip(other, line)]

    def mix(self):
        """Return the list of the amounts of the worths, in the scale."""
        amounts = [0] * len(self.gains)
        for at, column in enumerate(self.basis):
            amounts[column] = self.lines[at][0]
        return amounts[self.many + 1:]

    def way(self, column):
        """Return the list of what the amounts of the worths grow by if that of a column grows by the scale."""
        amounts = [0] * len(self.gains)
        amounts[column] = self.scale
        for at, other in enumerate(self.basis):
            amounts[other] = -self.lines[at][column]
        return amounts[self.many + 1:]

    def costs(self):
        """Return the list of what the worth grows by with the bound of each row, in the scale."""
        return self.gains[1:self.many + 1]


def first_line(at, bounds, row):
    """Return the line of a row before the first turn."""
    own = [1 if k == at else 0 for k in range(len(bounds))]
    return [bounds[at]] + own + list(row)


def best_mix(rows, bounds, worths):
    """Return a mix with the greatest worth and costs that show this, or numbers that show that there is none."""
    check_program(rows, bounds, worths)
    tableau = Tableau(rows, bounds, worths)
    column = tableau.entering()
    while column is not None:
        at = tableau.leaving(column)
        if at is None:
            return ("endless", tuple(lowest_terms(tableau.way(column))))
        tableau.turn(at, column)
        column = tableau.entering()
    unit, *numbers = lowest_terms([tableau.scale] + tableau.mix() + tableau.costs())
    return ("best", unit, tuple(numbers[:len(worths)]), tuple(numbers[len(worths):]))


def check_program(rows, bounds, worths):
    """Raise an error unless there is a bound for each row, an item for each worth, and no bound below 0."""
    if len(bounds) != len(rows):
        raise BadCount(len(bounds))
    for row in rows:
        if len(row) != len(worths):
            raise BadCount(len(row))
    for bound in bounds:
        if bound < 0:
            raise BadBound(bound)


def lowest_terms(numbers):
    """Return the list of the numbers without their common divisor. Not all of them are 0."""
    divisor = 0
    for number in numbers:
        divisor = gcd(divisor, number)
    return [number // divisor for number in numbers]
