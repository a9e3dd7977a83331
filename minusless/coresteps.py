"""What a step does to the core, worked out on the core alone."""

from minusless.errors import NotGood
from minusless.mainrule import core_fault
from minusless.making import made_row
from minusless.numbers import ONE, less, over, plus, times
from minusless.stairs import Stair, pattern_of
from minusless.steps import check_amount, check_place
from minusless.tables import Table, check_row_place
from minusless.unmaking import unmade_row


def check_good_core(core):
    """Refuse a core that makes a table that is not good."""
    fault = core_fault(core)
    if fault is not None:
        raise NotGood(fault[0], fault[1])


def level_row(core, at):
    """Return row at of level at + 1 of the table made of the core, for a row at that is not the last one."""
    return made_row(core.rows[at], core.rows[at + 1])


def core_row_at(core, at):
    """Return row at of level at + 1 of the table made of the core; the last row of the core as it is."""
    check_row_place(at, core.high)
    return core.rows[at] if at == core.high - 1 else level_row(core, at)


def core_behind_down(core, at, amount):
    """Return the core behind a step down, for the core of a good table."""
    base = level_row(core, at)
    lower = tuple([plus(old, times(amount, more)) for old, more in zip(core.rows[at + 1], base)])
    return Table(core.rows[:at] + (unmade_row(base, lower), lower) + core.rows[at + 2:])


def core_step(core, at, amount):
    """Return the core behind a step down."""
    check_place(core, "down", at)
    check_amount(amount)
    check_good_core(core)
    return core_behind_down(core, at, amount)


def core_column_step(core, at, amount):
    """Return the core behind a step right."""
    check_place(core, "right", at)
    check_amount(amount)
    check_good_core(core)
    return core_behind_down(core.turned(), at, amount).turned()


def last_full(boxes, stop):
    """Return the last full place ahead of the place stop, None if there is none."""
    full = [place for place in range(stop) if boxes[place] == 1]
    return full[-1] if len(full) > 0 else None


def climb_path(core, at):
    """Return what grows by a step up, in order, each as (box, source, onward).

    The number at the box grows by a multiple of the number at the source. The number at the box onward tells
    the next multiple; onward is None behind the last box that grows.
    """
    rows = pattern_of(core)
    columns = list(zip(*rows))
    path = []
    upper, lower, edge = (at, at + 1, core.wide)
    while upper is not None:
        column = last_full(rows[lower], edge)
        if column is None:
            return path
        left = last_full(rows[upper], column) if rows[upper][column] == 1 else None
        path = path + [((upper, column), (lower, column), onward_box(upper, left))]
        row = last_full(columns[column], upper) if left is not None else None
        if row is None:
            return path
        above = last_full(columns[left], row) if rows[row][left] == 1 else None
        path = path + [((row, left), (row, column), onward_box(above, left))]
        upper, lower, edge = (above, row, left)
    return path


def onward_box(row, column):
    """Return the box, None if one of its numbers is None."""
    return None if row is None or column is None else (row, column)


def core_behind_up(core, at, amount):
    """Return the core behind a step up, for the core of a good table."""
    rows = [list(row) for row in core.rows]
    factor = amount
    for (row, column), (from_row, from_column), onward in climb_path(core, at):
        old = core.rows[row][column]
        new = plus(old, times(factor, core.rows[from_row][from_column]))
        rows[row][column] = new
        if onward is not None:
            number = core.rows[onward[0]][onward[1]]
            factor = times(number, less(over(ONE, old), over(ONE, new)))
    return Table(rows)


def climb(core, at, amount):
    """Return the core behind a step up."""
    check_place(core, "up", at)
    check_amount(amount)
    check_good_core(core)
    return core_behind_up(core, at, amount)


def left_climb(core, at, amount):
    """Return the core behind a step left."""
    check_place(core, "left", at)
    check_amount(amount)
    check_good_core(core)
    return core_behind_up(core.turned(), at, amount).turned()


def climb_boxes(core, at):
    """Return the boxes whose numbers grow by a step up, in their order."""
    check_place(core, "up", at)
    check_good_core(core)
    return tuple([box for box, _, _ in climb_path(core, at)])


def adds_box(stair, at):
    """Tell whether a step down gives one full box more."""
    check_place(stair, "down", at)
    return stair.first(at) < stair.first(at + 1)


def step_pattern(stair, at):
    """Return the Stair behind a step down."""
    if not adds_box(stair, at):
        return stair
    first = stair.first(at + 1)
    moving = [column for column in range(first) if stair.rows[at][column] == 1]
    upper = [0 if column in moving[:-1] else box for column, box in enumerate(stair.rows[at])]
    lower = [1 if column in moving else box for column, box in enumerate(stair.rows[at + 1])]
    return Stair(stair.rows[:at] + (upper, lower) + stair.rows[at + 2:])
