"""Tables whose minors are all above 0, and rows at which the strict rule does not hold."""

from minusless.breaking import breaking_row
from minusless.checks import check_count
from minusless.errors import TooMany
from minusless.lots import lot_without
from minusless.meanings import lot_pairs
from minusless.minors import minor
from minusless.numbers import NOUGHT, ONE, opposite, sign_of
from minusless.roadminors import minor_at
from minusless.roads import tree_boxes
from minusless.signs import changes, taken

MOST_PLACES = 7
MOST_COLUMNS = 5
SIGNS = ((-1, 1), (0, 1), (1, 1))


def is_all_above(table):
    """Tell whether every minor is above 0, by one minor for each box."""
    full = ((1,) * table.wide,) * table.high
    for row, column in tree_boxes(full):
        if sign_of(minor_at(table, full, row, column)) < 1:
            return False
    return True


def row_of_noughts(table, rows, columns):
    """Return the row, 0 outside the columns, that is taken to 0 at the rows of a minor that is 0."""
    numbers = [NOUGHT] * table.wide
    rest = rows[1:]
    for place, column in enumerate(columns):
        number = minor(table, rest, lot_without(columns, column))
        numbers[column] = opposite(number) if place % 2 == 1 else number
    return tuple(numbers)


def strict_row(table):
    """Return a row at which the strict rule does not hold, None if the table is all above."""
    broken = breaking_row(table)
    if broken is not None:
        return broken
    for rows, columns in lot_pairs(table):
        if minor(table, rows, columns) == NOUGHT:
            return row_of_noughts(table, rows, columns)
    return None


def rows_of_signs(size):
    """Yield the rows of -1, 0 and 1 but the row of noughts, in order."""
    check_count(size, "size")
    if size > MOST_PLACES:
        raise TooMany(MOST_PLACES)
    found = [()]
    for _ in range(size):
        found = [row + (number,) for row in found for number in SIGNS]
    for row in found:
        if ONE in row or SIGNS[0] in row:
            yield row


def most_over(table):
    """Return the greatest number of changes to which the table takes a row of -1, 0 and 1."""
    wide = table.wide
    if wide > MOST_COLUMNS:
        raise TooMany(MOST_COLUMNS)
    return max([changes(taken(table, row)) for row in rows_of_signs(wide)])
