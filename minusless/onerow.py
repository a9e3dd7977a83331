"""Goodness told by the last row and the rows above it."""

from minusless.errors import NoStep
from minusless.mainrule import good_core, is_good
from minusless.numbers import NOUGHT, over, sign_of
from minusless.tables import check_column_place
from minusless.unmaking import full_behind, last_round


def has_below(row):
    """Tell whether a number of the row is below 0."""
    return any([sign_of(number) < 0 for number in row])


def has_bad_column(table):
    """Tell whether a column is not 0 everywhere, though 0 in the last row behind a number above 0."""
    last = table.rows[-1]
    for column in range(table.wide):
        behind_full = any([sign_of(number) > 0 for number in last[:column]])
        if last[column] == NOUGHT and behind_full and not is_nought_column(table, column):
            return True
    return False


def is_nought_column(table, column):
    """Tell whether the column is 0 in all rows."""
    return all([row[column] == NOUGHT for row in table.rows])


def row_verdict(table):
    """Return the name of the first condition of one row that fails, "good" if none does."""
    if has_below(table.rows[-1]):
        return "below"
    if has_bad_column(table):
        return "column"
    if table.high > 1 and not is_good(last_round(table)[0]):
        return "above"
    return "good"


def clearing_room(table, column):
    """Return the greatest part of the next full column that can be cleared off the column."""
    check_column_place(column, table.wide)
    good_core(table)
    last = table.rows[-1]
    behind = full_behind(last, column)
    if last[column] == NOUGHT or behind is None:
        raise NoStep()
    if any([number != NOUGHT for number in last[:column]]):
        raise NoStep()
    return over(last[column], last[behind])
