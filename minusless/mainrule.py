"""The main rule: a table is good if its core has no number below 0 and lies like stairs."""

from minusless.errors import BadNumber, NotGood, OtherSize
from minusless.making import made
from minusless.meanings import is_good_plainly
from minusless.numbers import NOUGHT, check_row, sign_of
from minusless.stairs import Stair, pattern_of, stair_fault
from minusless.tables import Table
from minusless.unmaking import unmade


def box_below(core):
    """Return the first box with a number below 0, None if there is none."""
    for at, row in enumerate(core.rows):
        for column, number in enumerate(row):
            if sign_of(number) < 0:
                return (at, column)
    return None


def core_fault(core):
    """Return the first box that shows that the table made of the core is not good, None if it is."""
    below = box_below(core)
    if below is not None:
        return below
    return stair_fault(pattern_of(core))


def is_good(table, *, plainly=False):
    """Tell whether the table is good, by its core or, plainly, by all minors."""
    if plainly is True:
        return is_good_plainly(table)
    return core_fault(unmade(table)) is None


def good_core(table):
    """Return the core of a good table."""
    core = unmade(table)
    fault = core_fault(core)
    if fault is not None:
        raise NotGood(fault[0], fault[1])
    return core


def stair_of(table):
    """Return the Stair of a good table."""
    return Stair.of_core(good_core(table))


def core_on(stair, numbers):
    """Return the core with the numbers in the full boxes of the stair."""
    rows = [[NOUGHT] * stair.wide for _ in range(stair.high)]
    for (row, column), number in zip(stair.full_boxes(), numbers):
        rows[row][column] = number
    return Table(rows)


def table_on(stair, numbers):
    """Return the table made of the core with the numbers in the full boxes of the stair."""
    found = check_row(numbers)
    for place, number in enumerate(found):
        if sign_of(number) < 1:
            raise BadNumber(place)
    if len(found) != stair.many:
        raise OtherSize(len(found), stair.many)
    return made(core_on(stair, found))


def numbers_of(table):
    """Return the numbers of the core of a good table in its full boxes, in reading order."""
    return tuple([number for row in good_core(table).rows for number in row if number != NOUGHT])


def same_cell(one, other):
    """Tell whether two good tables have equal stairs."""
    stair = stair_of(one)
    return stair == stair_of(other)
