"""Determinants, minors and the rank."""

from minusless.errors import NotSquare, OtherSize, TooMany
from minusless.lots import check_lot
from minusless.numbers import NOUGHT, ONE, less, opposite, over, plus, sign_of, times

PLAIN_LIMIT = 6


def check_square(table):
    """Refuse a table that is not square."""
    if not table.square:
        raise NotSquare(table.high, table.wide)


def first_led(rows):
    """Return the place of the first row that does not begin with 0, None if all do."""
    for place, row in enumerate(rows):
        if row[0] != NOUGHT:
            return place
    return None


def cleared_by(row, lead):
    """Return the row, less the multiple of lead that leaves 0 at its first place, behind that place."""
    part = over(row[0], lead[0])
    return tuple([less(number, times(part, other)) for number, other in zip(row[1:], lead[1:])])


def without_lead(rows, at):
    """Return the other rows, cleared by row at, without the first column."""
    return [cleared_by(row, rows[at]) for place, row in enumerate(rows) if place != at]


def determinant_of(rows):
    """Return the determinant of as many rows as columns; it is 1 if there are none."""
    value = ONE
    while len(rows) > 0:
        at = first_led(rows)
        if at is None:
            return NOUGHT
        value = times(value, rows[at][0])
        # Row at goes past the rows above it, and each exchange turns the sign.
        if at % 2 == 1:
            value = opposite(value)
        rows = without_lead(rows, at)
    return value


def determinant(table):
    """Return the determinant of a square table."""
    check_square(table)
    return determinant_of(table.rows)


def plain_determinant_of(rows):
    """Return the determinant by the first row."""
    if len(rows) == 0:
        return ONE
    total = NOUGHT
    for column, number in enumerate(rows[0]):
        rest = [row[:column] + row[column + 1:] for row in rows[1:]]
        share = times(number, plain_determinant_of(rest))
        total = less(total, share) if column % 2 == 1 else plus(total, share)
    return total


def plain_determinant(table):
    """Return the determinant of a square table of at most 6 rows by its first row."""
    check_square(table)
    if table.high > PLAIN_LIMIT:
        raise TooMany(PLAIN_LIMIT)
    return plain_determinant_of(table.rows)


def check_lots(rows, columns, high, wide):
    """Return a lot of rows and one of columns as tuples of one length."""
    row_lot = check_lot(rows, high)
    column_lot = check_lot(columns, wide)
    if len(row_lot) != len(column_lot):
        raise OtherSize(len(row_lot), len(column_lot))
    return (row_lot, column_lot)


def minor(table, rows, columns):
    """Return the minor of two lots."""
    row_lot, column_lot = check_lots(rows, columns, table.high, table.wide)
    return determinant_of([[table.rows[row][column] for column in column_lot] for row in row_lot])


def is_bad(table, rows, columns):
    """Tell whether the minor is below 0."""
    return sign_of(minor(table, rows, columns)) < 0


def rank_of(table):
    """Return the greatest size of a minor that is not nought."""
    rows = table.rows
    rank = 0
    while len(rows) > 0 and len(rows[0]) > 0:
        at = first_led(rows)
        if at is None:
            rows = [row[1:] for row in rows]
        else:
            rows = without_lead(rows, at)
            rank += 1
    return rank
