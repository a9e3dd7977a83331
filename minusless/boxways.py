"""Ways of a core, told by the boxes in which they turn."""

from minusless.checks import is_from, is_pair, is_series
from minusless.errors import BadBox, TooMany
from minusless.making import made
from minusless.numbers import NOUGHT, ONE, over, times
from minusless.tables import check_box

MOST_FULL = 24


def check_turns(way):
    """Return the turns of a way as a tuple of tuples, whatever boxes they are."""
    if not is_series(way) or len(way) % 2 == 0 or not all([is_pair(turn) for turn in way]):
        raise BadBox(-1, -1)
    return tuple([tuple(turn) for turn in way])


def is_full(core, row, column):
    """Tell whether the core has such a box and it is full."""
    if not is_from(row, 0, core.high - 1) or not is_from(column, 0, core.wide - 1):
        return False
    return core.rows[row][column] != NOUGHT


def may_turn(core, turns, at):
    """Tell whether a way with these turns can make the one at this place."""
    row, column = turns[at]
    if not is_full(core, row, column):
        return False
    if at == 0:
        return True
    old_row, old_column = turns[at - 1]
    # The turns at odd places are those to the left.
    if at % 2 == 1:
        return row > old_row and column == old_column
    return row == old_row and column < old_column


def check_way(core, way):
    """Return the turns of a way of the core as a tuple of tuples."""
    turns = check_turns(way)
    for at, (row, column) in enumerate(turns):
        if not may_turn(core, turns, at):
            raise BadBox(row, column)
    return turns


def count_full(core):
    """Return the number of full boxes of the core."""
    return sum([1 for row in core.rows for number in row if number != NOUGHT])


def ways_running(core, turns, edge, ends):
    """Yield the ways that, behind these turns, run left from the column edge and so reach the ends.

    The ends are a row and a column: the row in which the way runs now, the column below which it leaves.
    """
    row, stop = ends
    for column in range(stop, edge):
        if core.rows[row][column] != NOUGHT:
            down = turns + ((row, column),)
            if column == stop:
                yield down
            else:
                yield from ways_left(core, down, stop)


def ways_left(core, turns, stop):
    """Yield the ways that, behind these turns, run down, turn left and leave below the column stop."""
    row, column = turns[-1]
    for below in range(row + 1, core.high):
        if core.rows[below][column] != NOUGHT:
            left = turns + ((below, column),)
            ends = (below, stop)
            yield from ways_running(core, left, column, ends)


def ways_of(core, row, column):
    """Yield the ways of the core from the row to the column in rising order."""
    check_box(core, row, column)
    if count_full(core) > MOST_FULL:
        raise TooMany(MOST_FULL)
    ends = (row, column)
    wide = core.wide
    yield from ways_running(core, (), wide, ends)


def weight_of(core, way):
    """Return the product of the numbers at the turns down, divided by that at the turns left."""
    weight = ONE
    for at, (row, column) in enumerate(check_way(core, way)):
        number = core.rows[row][column]
        weight = over(weight, number) if at % 2 == 1 else times(weight, number)
    return weight


def line_behind(start, stop):
    """Return the boxes behind start up to stop, which stands left of it or below it."""
    row, column = start
    end_row, end_column = stop
    if row == end_row:
        return [(row, place) for place in range(column - 1, end_column - 1, -1)]
    return [(place, column) for place in range(row + 1, end_row + 1)]


def boxes_of(core, way):
    """Return the boxes that the way of the core runs through, in its order."""
    turns = check_way(core, way)
    start = (turns[0][0], core.wide - 1)
    stop = (core.high - 1, turns[-1][1])
    boxes = [start]
    for box in turns + (stop,):
        boxes = boxes + line_behind(boxes[-1], box)
    return tuple(boxes)


def entry_of(core, row, column):
    """Return the entry of the table made of the core, which is the sum of the weights of its ways."""
    check_box(core, row, column)
    return made(core).rows[row][column]


def turned_way(way):
    """Return the way of the turned core."""
    turns = check_turns(way)
    return tuple([(column, row) for row, column in turns[::-1]])


def touch(core, one, other):
    """Tell whether two ways of the core have a box in common."""
    boxes = boxes_of(core, one)
    return any([box in boxes for box in boxes_of(core, other)])
