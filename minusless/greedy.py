"""Furthest ways of a stair, and the company that they make."""

from minusless.boxways import boxes_of
from minusless.mainrule import core_on
from minusless.minors import check_lots
from minusless.numbers import ONE
from minusless.tables import check_box


def some_core(stair):
    """Return a core on the stair; which one makes no difference to its ways."""
    return core_on(stair, [ONE] * stair.many)


def free_row(rows, row, free_below, taken):
    """Return where a way can go on in a row: a list for ways that run down, and whether one may run in from the right.

    Where one that runs down can go on in the row below stands in free_below.
    """
    downward = []
    free_left = False
    for column, box in enumerate(rows[row]):
        untaken = (row, column) not in taken
        downward = downward + [untaken and (free_below[column] or (box == 1 and free_left))]
        free_left = untaken and (free_left or (box == 1 and free_below[column]))
    return (downward, free_left)


def furthest_turns(rows, row, stop, taken):
    """Return the turns of the furthest way from the row to the column stop beside the boxes taken, or None."""
    free = [[column == stop for column in range(len(rows[0]))]]
    may_begin = False
    for at in reversed(range(row, len(rows))):
        downward, may_begin = free_row(rows, at, free[0], taken)
        free = [downward] + free
    return turns_through(rows, row, free) if may_begin else None


def turns_through(rows, row, free):
    """Return the turns of the furthest way from the row.

    Where a way that runs down can go on stands in free, for each row from that one on and for the one below all.
    """
    turns = ()
    at = row
    column = len(rows[0]) - 1
    falling = False
    while at < len(rows):
        falls = free[at - row + 1][column] and (falling or rows[at][column] == 1)
        if falls != falling:
            turns = turns + ((at, column),)
        falling = falls
        if falling:
            at += 1
        else:
            column = column - 1
    return turns


def boxes_taken(core, ways_sent):
    """Return a dict whose keys are the boxes of the ways."""
    return {box: True for way in ways_sent for box in boxes_of(core, way)}


def furthest_way(stair, row, column, sent=()):
    """Return the furthest way from the row to the column beside the ways sent, None if there is none."""
    check_box(stair, row, column)
    taken = boxes_taken(some_core(stair), sent)
    return furthest_turns(stair.rows, row, column, taken)


def company_in(stair, rows, columns):
    """Return the furthest company from rows to columns, None if there is none."""
    starts, stops = check_lots(rows, columns, stair.high, stair.wide)
    core = some_core(stair)
    company = ()
    for row, column in reversed(list(zip(starts, stops))):
        way = furthest_turns(stair.rows, row, column, boxes_taken(core, company))
        if way is None:
            return None
        company = (way,) + company
    return company
