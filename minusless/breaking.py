"""Rows of numbers that show that a table is not good, and rows that reach as many changes as its rank allows."""

from minusless.errors import NoTurning, OtherSize
from minusless.mainrule import good_core
from minusless.meanings import check_small, least_bad, lot_pairs
from minusless.minors import check_square, determinant, minor, rank_of
from minusless.numbers import NOUGHT, ONE, check_row, opposite
from minusless.papers import Paper, about_table
from minusless.signs import rule_holds, taken
from minusless.solving import solution


def solved(table, row):
    """Return the row that the table takes to this row."""
    check_square(table)
    if determinant(table) == NOUGHT:
        raise NoTurning()
    numbers = check_row(row)
    if len(numbers) != table.high:
        raise OtherSize(table.high, len(numbers))
    return solution(table.rows, numbers)


def breaks(table, row):
    """Tell whether the sign rule of the table does not hold at the row."""
    return not rule_holds(table, row)


def changing_row(table, rows, columns):
    """Return the row, 0 outside the columns, that is taken to 1, -1, 1, .. at the rows of a minor that is not 0."""
    part = [[table.rows[row][column] for column in columns] for row in rows]
    found = solution(part, [ONE if place % 2 == 0 else opposite(ONE) for place in range(len(rows))])
    numbers = [NOUGHT] * table.wide
    for column, number in zip(columns, found):
        numbers[column] = number
    return tuple(numbers)


def breaking_row(table):
    """Return a row at which the sign rule does not hold, by the first bad minor, None if the table is good."""
    lots_found = least_bad(table)
    if lots_found is None:
        return None
    rows, columns = lots_found
    return changing_row(table, rows, columns)


def first_full_minor(table, size):
    """Return the lots of the first minor of this size that is not 0, for a size up to the rank."""
    for rows, columns in lot_pairs(table):
        if len(rows) == size and minor(table, rows, columns) != NOUGHT:
            return (rows, columns)
    return ((), ())


def reaching_row(table):
    """Return a row that the good table takes to one with as many changes as its rank allows."""
    check_small(table)
    good_core(table)
    rank = rank_of(table)
    if rank == 0:
        return (NOUGHT,) * table.wide
    rows, columns = first_full_minor(table, rank)
    return changing_row(table, rows, columns)


class SignPaper(Paper):
    """A row at which the sign rule of a table does not hold, which shows that the table is not good."""

    KIND = "sign"

    def __init__(self, table, row):
        Paper.__init__(self, table)
        taken(table, row)
        self.row_told = tuple(row)

    def holds(self):
        """Tell whether the sign rule of the table does not hold at the row."""
        return breaks(self.table, self.row_told)

    def about(self):
        """Return a string that tells the size of the table and the claim."""
        return f"{about_table(self.table)}: signs"

    def size(self):
        """Return how many numbers of the row are not 0."""
        return len([number for number in self.row_told if number != NOUGHT])

    def __eq__(self, other):
        return isinstance(other, SignPaper) and self.table == other.table and self.row_told == other.row_told
