"""The stairs of one size in their order, and their numbers."""

from math import comb

from minusless.checks import check_want
from minusless.counting import check_sizes, count_stairs, stair_counts
from minusless.errors import TooMany
from minusless.lots import check_lot
from minusless.stairs import Stair
from minusless.tables import LIMIT

MOST_BOXES = 20


def check_stair_size(high, wide):
    """Refuse numbers of rows and columns that are not integers from 1 to 12."""
    check_want(high, 1, LIMIT, "high")
    check_want(wide, 1, LIMIT, "wide")


def still_free(free, boxes):
    """Return those of the free columns that this row, put above the others, does not bar."""
    return [column for column in free if boxes[column] == 1 or 1 not in boxes[:column]]


def rows_within(free, wide):
    """Return the rows that are full in free columns alone, in the order of stairs of one row."""
    found = [()]
    for column in range(wide):
        signs = (0, 1) if column in free else (0,)
        found = [boxes + (sign,) for sign in signs for boxes in found]
    return found


def stair_rows(high, wide, free, below):
    """Yield the rows of the stairs that have high rows more on top of those below, in their order."""
    if high == 0:
        yield below
        return
    fewer = high - 1
    for boxes in rows_within(free, wide):
        left = still_free(free, boxes)
        more = (boxes,) + below
        yield from stair_rows(fewer, wide, left, more)


def stairs_of(high, wide, *, boxes=None):
    """Yield the Stairs of this size in their order, or those with so many full boxes."""
    check_stair_size(high, wide)
    if boxes is not None:
        check_want(boxes, 0, high * wide, "boxes")
    if high * wide > MOST_BOXES:
        raise TooMany(MOST_BOXES)
    free = list(range(wide))
    for rows in stair_rows(high, wide, free, ()):
        if boxes is None or sum([sum(row) for row in rows]) == boxes:
            yield Stair(rows)


def many_with(counts, free, boxes, column):
    """Return the number of stairs on top of given rows whose last row is as told in boxes from the column on.

    The numbers of stairs of the rows above that one stand in counts, by their columns. The columns that the
    given rows do not bar are free.
    """
    open_columns = len([place for place in free if place < column])
    empty = [place for place in free if place >= column and boxes[place] == 0]
    barred = [place for place in empty if 1 in boxes[column:place]]
    # At first nothing is full left of the column; else a full box there bars all that is empty behind it.
    total = counts[len(free) - len(barred)]
    for more in range(open_columns):
        total = total + comb(open_columns, more + 1) * counts[len(free) - len(empty) - more]
    return total


def number_of_stair(stair):
    """Return the place of the stair in the list of all stairs of its size."""
    number = 0
    free = list(range(stair.wide))
    for row in reversed(range(stair.high)):
        boxes = stair.rows[row]
        counts = stair_counts(row, stair.wide)
        for column in [place for place in free if boxes[place] == 1]:
            emptied = boxes[:column] + (0,) + boxes[column + 1:]
            number = number + many_with(counts, free, emptied, column)
        free = still_free(free, boxes)
    return number


def row_with(counts, free, wide, number):
    """Return the last row of the stair with this number, and the number of those above among theirs."""
    boxes = [0] * wide
    left = number
    for column in free[::-1]:
        many = many_with(counts, free, boxes, column)
        if left >= many:
            left = left - many
            boxes[column] = 1
    return (tuple(boxes), left)


def stair_at(high, wide, number):
    """Return the Stair of this size with this number."""
    check_stair_size(high, wide)
    check_want(number, 0, count_stairs(high, wide) - 1, "number")
    rows = ()
    left = number
    free = list(range(wide))
    for row in reversed(range(high)):
        boxes, left = row_with(stair_counts(row, wide), free, wide, left)
        rows = (boxes,) + rows
        free = still_free(free, boxes)
    return Stair(rows)


def next_stair(stair):
    """Return the Stair whose number is greater by 1, None if all boxes are full."""
    if stair.many == stair.high * stair.wide:
        return None
    return stair_at(stair.high, stair.wide, number_of_stair(stair) + 1)


def count_above(high, wide, taken):
    """Return the number of stairs of this size without a full box in the columns taken."""
    check_sizes(high, wide)
    return count_stairs(high, wide - len(check_lot(taken, wide)))
