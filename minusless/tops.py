"""Rows and columns that may be put at the sides of a good table."""

from minusless.errors import OtherSize
from minusless.mainrule import good_core
from minusless.numbers import NOUGHT, check_row, sign_of
from minusless.passages import against, check_fitting, passage
from minusless.stairs import Stair
from minusless.unmaking import unmade


def check_column_fitting(table, column):
    """Return the column as a tuple of as many numbers as the table has rows."""
    found = check_row(column)
    if len(found) != table.high:
        raise OtherSize(len(found), table.high)
    return found


def fits_core(core, row):
    """Tell whether the row may be put on top of the good table of this core."""
    barred = Stair.of_core(core).barred()
    numbers = against(core, row)
    if not all([number == NOUGHT for column, number in enumerate(numbers) if column in barred]):
        return False
    return all([sign_of(number) >= 0 for number in numbers])


def may_top(table, row):
    """Tell whether the row may be put above the first row."""
    added = check_fitting(table, row)
    return fits_core(good_core(table), added)


def may_bottom(table, row):
    """Tell whether the row may be put below the last row."""
    added = check_fitting(table, row)
    good_core(table)
    return fits_core(unmade(table.half_turned()), added[::-1])


def may_left(table, column):
    """Tell whether the column may be put left of the first column."""
    added = check_column_fitting(table, column)
    return fits_core(good_core(table).turned(), added)


def may_right(table, column):
    """Tell whether the column may be put right of the last column."""
    added = check_column_fitting(table, column)
    good_core(table)
    return fits_core(unmade(table.half_turned()).turned(), added[::-1])


def edge_columns(core):
    """Return the columns that the stair of the core does not bar, rising."""
    barred = Stair.of_core(core).barred()
    return [column for column in range(core.wide) if column not in barred]


def edges_of(core):
    """Return the edges on top of the good table of this core."""
    rows = passage(core).rows
    return tuple([(column, rows[column]) for column in edge_columns(core)])


def top_edges(table):
    """Return the edges on top, each as (column, row)."""
    return edges_of(good_core(table))


def top_numbers(table, row):
    """Return how often each edge goes into the row, None if the row may not be put on top."""
    added = check_fitting(table, row)
    core = good_core(table)
    if not fits_core(core, added):
        return None
    numbers = against(core, added)
    return tuple([numbers[column] for column in edge_columns(core)])


def bottom_edges(table):
    """Return the edges below, each as (column, row)."""
    good_core(table)
    edges = edges_of(unmade(table.half_turned()))
    return tuple([(table.wide - 1 - column, row[::-1]) for column, row in edges[::-1]])
