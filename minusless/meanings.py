"""The meaning of a table: all its minors in order."""

from minusless.errors import OtherSize, TooMany
from minusless.lots import lots
from minusless.minors import check_lots, minor
from minusless.numbers import NOUGHT, plus, sign_of, times

MEANING_LIMIT = 6


def check_small(table):
    """Refuse a table with more than 6 rows or columns."""
    if table.high > MEANING_LIMIT or table.wide > MEANING_LIMIT:
        raise TooMany(MEANING_LIMIT)


def lot_pairs(table):
    """Yield the pairs of lots of the minors but the empty one, in order."""
    high = table.high
    wide = table.wide
    for many in range(1, min(high, wide) + 1):
        for rows in lots(high, many):
            for columns in lots(wide, many):
                yield (rows, columns)


def meaning(table):
    """Return all minors but the empty one, in order, each as (rows, columns, number)."""
    check_small(table)
    return tuple([(rows, columns, minor(table, rows, columns)) for rows, columns in lot_pairs(table)])


def is_good_plainly(table):
    """Tell whether no minor is below 0."""
    return least_bad(table) is None


def is_all_above_plainly(table):
    """Tell whether every minor is above 0."""
    check_small(table)
    for rows, columns in lot_pairs(table):
        if sign_of(minor(table, rows, columns)) < 1:
            return False
    return True


def least_bad(table):
    """Return the first minor below 0 as (rows, columns), None if there is none."""
    check_small(table)
    for rows, columns in lot_pairs(table):
        if sign_of(minor(table, rows, columns)) < 0:
            return (rows, columns)
    return None


def nought_minors(table):
    """Return the (rows, columns) of the minors that are nought, in order."""
    return tuple([(rows, columns) for rows, columns, number in meaning(table) if number == NOUGHT])


def product_minor(one, other, rows, columns):
    """Return the minor of one * other as a sum over the lots of the columns of one."""
    if one.wide != other.high:
        raise OtherSize(one.wide, other.high)
    row_lot, column_lot = check_lots(rows, columns, one.high, other.wide)
    total = NOUGHT
    middle = one.wide
    for lot in lots(middle, len(row_lot)):
        total = plus(total, times(minor(one, row_lot, lot), minor(other, lot, column_lot)))
    return total
