"""Clearing: columns subtracted from columns, until the core is left."""

from minusless.errors import NoStep
from minusless.numbers import NOUGHT, check_number, less, over, times
from minusless.tables import Table, check_column_place
from minusless.unmaking import full_behind


def less_column(row, column, other, factor):
    """Return the row with factor times the number of the other column subtracted in the column."""
    changed = less(row[column], times(factor, row[other]))
    return row[:column] + (changed,) + row[column + 1:]


def cleared_left(row, by, other):
    """Return the row with the column other subtracted from each one left of it, as the row by asks."""
    found = row
    for column in range(other):
        found = less_column(found, column, other, over(by[column], by[other]))
    return found


def cleared_above(row, by):
    """Return what plain clearing by the row by leaves of a row above it."""
    found = row
    for column in reversed(range(len(by))):
        if by[column] != NOUGHT:
            found = cleared_left(found, by, column)
    return found


def cleared(table):
    """Return the core by plain clearing."""
    rows = list(table.rows)
    for at in range(len(rows) - 1, 0, -1):
        above = [cleared_above(row, rows[at]) for row in rows[:at]]
        rows = above + rows[at:]
    return Table(rows)


def behind_in_last(table, column):
    """Return the next full column of the full column in the last row."""
    last = table.rows[-1]
    behind = full_behind(last, column)
    if last[column] == NOUGHT or behind is None:
        raise NoStep()
    return behind


def clear_column(table, column):
    """Return the table with its next full column subtracted so that the last row gets 0 in the column."""
    check_column_place(column, table.wide)
    behind = behind_in_last(table, column)
    last = table.rows[-1]
    return clear_part(table, column, over(last[column], last[behind]))


def clear_part(table, column, number):
    """Return the table with number times the next full column subtracted from the column."""
    check_column_place(column, table.wide)
    factor = check_number(number)
    behind = behind_in_last(table, column)
    return Table([less_column(row, column, behind, factor) for row in table.rows])
