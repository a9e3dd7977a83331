"""Unmaking: from a table to its core, one round for each row."""

from minusless.checks import is_from
from minusless.errors import BadBox, OtherSize, TooMany
from minusless.numbers import NOUGHT, check_row, less, over, times
from minusless.tables import Table, check_row_place


def full_behind(row, column):
    """Return the next full column of the column, None if there is none."""
    for place in range(column + 1, len(row)):
        if row[place] != NOUGHT:
            return place
    return None


def next_full(row, column):
    """Return the next full column of the column in the row, None if there is none."""
    found = check_row(row)
    if not is_from(column, 0, len(found) - 1):
        raise BadBox(-1, column)
    return full_behind(found, column)


def check_row_pair(row, by):
    """Return two rows of one length as tuples."""
    changed = check_row(row)
    base = check_row(by)
    if len(changed) != len(base):
        raise OtherSize(len(changed), len(base))
    return (changed, base)


def unmade_number(row, by, column):
    """Return what the round of the row by leaves of one number of the row."""
    behind = full_behind(by, column)
    if by[column] == NOUGHT or behind is None:
        return row[column]
    return less(row[column], times(over(by[column], by[behind]), row[behind]))


def unmade_row(row, by):
    """Return what the unmaking round of the row by turns a row above it into."""
    changed, base = check_row_pair(row, by)
    return tuple([unmade_number(changed, base, column) for column in range(len(base))])


def last_round(table):
    """Return the rows above the last one, as its round leaves them, and the last row."""
    if table.high == 1:
        raise TooMany(1)
    last = table.rows[-1]
    return (Table([unmade_row(row, last) for row in table.rows[:-1]]), last)


def unmade(table):
    """Return the core of the table."""
    rest = table
    rows = [rest.rows[-1]]
    while rest.high > 1:
        rest, _ = last_round(rest)
        rows = [rest.rows[-1]] + rows
    return Table(rows)


def level(table, at):
    """Return the level of number at: the rows 0 to at just before their last round."""
    check_row_place(at, table.high)
    found = table
    while found.high > at + 1:
        found, _ = last_round(found)
    return found


def core_row(table, at):
    """Return row at of the core."""
    return level(table, at).rows[-1]
