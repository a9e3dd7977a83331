"""The noughts of a cell: the minors that are nought in all its tables."""

from minusless.checks import check_alike
from minusless.errors import TooMany
from minusless.greedy import company_in
from minusless.meanings import lot_pairs
from minusless.numbers import NOUGHT
from minusless.tables import check_box

MOST_LINES = 5


def is_nought(stair, rows, columns):
    """Tell whether the stair has no company from rows to columns."""
    return company_in(stair, rows, columns) is None


def check_listed(stair):
    """Refuse a stair with more than 5 rows or columns."""
    if stair.high > MOST_LINES or stair.wide > MOST_LINES:
        raise TooMany(MOST_LINES)


def noughts_of(stair):
    """Return the noughts of the cell, pairs of lots in the order of the meaning."""
    check_listed(stair)
    return tuple([(rows, columns) for rows, columns in lot_pairs(stair) if is_nought(stair, rows, columns)])


def nought_entries(stair):
    """Return the boxes whose entries are 0 in all tables of the cell, in reading order."""
    boxes = [(row, column) for row in range(stair.high) for column in range(stair.wide)]
    return tuple([(row, column) for row, column in boxes if is_nought(stair, (row,), (column,))])


def all_nought(lines):
    """Tell whether all entries of a block are 0."""
    return all([number == NOUGHT for line in lines for number in line])


def why_nought(table, row, column):
    """Return the name of the first block of zeros in which the entry lies."""
    check_box(table, row, column)
    rows = table.rows
    if rows[row][column] != NOUGHT:
        return "full"
    if all_nought([rows[row]]):
        return "row"
    if all_nought([[line[column]] for line in rows]):
        return "column"
    if all_nought([line[:column + 1] for line in rows[row:]]):
        return "below"
    if all_nought([line[column:] for line in rows[:row + 1]]):
        return "above"
    return "none"


def more_noughts(one, other):
    """Tell whether every nought of the cell of other is a nought of the cell of one."""
    check_alike(one.rows, other.rows)
    return all([is_nought(one, rows, columns) for rows, columns in noughts_of(other)])
