"""How far an entry of a good table may be raised or lowered."""

from minusless.errors import TooMany
from minusless.lots import lot_without
from minusless.mainrule import good_core
from minusless.meanings import lot_pairs
from minusless.minors import minor
from minusless.numbers import NOUGHT, ONE, is_above, opposite, over, sign_of
from minusless.passages import against
from minusless.stairs import Stair
from minusless.tables import Table, check_box, check_column_place

MOST_LINES = 5


def check_raising(table, row, column):
    """Refuse a wrong box, a large table and one that is not good."""
    check_box(table, row, column)
    if table.high > MOST_LINES or table.wide > MOST_LINES:
        raise TooMany(MOST_LINES)
    good_core(table)


def minors_through(table, row, column):
    """Return the minors with this row and column that the box's entry changes, in order.

    Each is (sign, bound, lots): for the sign 1 the minor is below 0 exactly if what is added to the entry is less
    than the bound, for the sign -1 exactly if it is greater.
    """
    found = []
    for rows, columns in lot_pairs(table):
        if row not in rows or column not in columns:
            continue
        factor = minor(table, lot_without(rows, row), lot_without(columns, column))
        if factor != NOUGHT:
            sign = 1 if (rows.index(row) + columns.index(column)) % 2 == 0 else -1
            bound = over(minor(table, rows, columns), factor)
            found = found + [(sign, opposite(bound) if sign == 1 else bound, (rows, columns))]
    return found


def greatest(numbers):
    """Return the greatest of the numbers, None if there are none."""
    found = None
    for number in numbers:
        if found is None or is_above(number, found):
            found = number
    return found


def least(numbers):
    """Return the least of the numbers, None if there are none."""
    found = greatest([opposite(number) for number in numbers])
    return None if found is None else opposite(found)


def end_of(through_box, sign):
    """Return the low end for the sign 1 and the high end for -1, None if there is no end."""
    bounds = [bound for own_sign, bound, _ in through_box if own_sign == sign]
    return greatest(bounds) if sign == 1 else least(bounds)


def entry_stretch(table, row, column):
    """Return the least and the greatest number that may be added to the entry, None for no end."""
    check_raising(table, row, column)
    through_box = minors_through(table, row, column)
    return (end_of(through_box, 1), end_of(through_box, -1))


def ending_minor(table, row, column, *, lowest=False):
    """Return the lots of the first minor that ends the stretch on the high side, or on the low one."""
    check_raising(table, row, column)
    through_box = minors_through(table, row, column)
    sign = 1 if lowest is True else -1
    end = end_of(through_box, sign)
    ending = [lots_ending for own_sign, bound, lots_ending in through_box if own_sign == sign and bound == end]
    return ending[0] if len(ending) > 0 else None


def top_core(table, column):
    """Return the core of a good table, what 1 in the box (0, column) adds to row 0, and the columns barred there."""
    check_column_place(column, table.wide)
    core = good_core(table)
    added = tuple([ONE if place == column else NOUGHT for place in range(table.wide)])
    if table.high == 1:
        return (core, added, ())
    below = Table(core.rows[1:])
    return (core, against(below, added), Stair.of_core(below).barred())


def bounds_at(core, added, barred, sign):
    """Return the low bounds of what may be added for the sign 1, the high ones for -1, each as (column, bound)."""
    moved = [place for place in range(core.wide) if added[place] != NOUGHT]
    return [(place, opposite(over(core.rows[0][place], added[place]))) for place in moved
            if place in barred or sign_of(added[place]) == sign]


def top_stretch(table, column):
    """Return the stretch of the box (0, column)."""
    core, added, barred = top_core(table, column)
    low = greatest([bound for _, bound in bounds_at(core, added, barred, 1)])
    high = least([bound for _, bound in bounds_at(core, added, barred, -1)])
    return (low, high)


def corner_low(table):
    """Return the low end of the stretch of the box (0, 0)."""
    return opposite(good_core(table).rows[0][0])


def first_emptied(table, column):
    """Return the first column of the core's row 0 that is emptied at the high end, None if there is no such end."""
    core, added, barred = top_core(table, column)
    bounds = bounds_at(core, added, barred, -1)
    high = least([bound for _, bound in bounds])
    if high is None:
        return None
    return [place for place, bound in bounds if bound == high][0]


def endless(table, row, column):
    """Tell whether the block above and right of the box is 0, and the one below and left of it, too."""
    check_box(table, row, column)
    above = [number for numbers in table.rows[:row] for number in numbers[column + 1:]]
    below = [number for numbers in table.rows[row + 1:] for number in numbers[:column]]
    return all([number == NOUGHT for number in above + below])
