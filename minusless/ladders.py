"""Ladders: full boxes of a stair, each below and right of the one before."""

from minusless.checks import is_from, is_pair
from minusless.errors import BadBox


def corner_sizes(stair):
    """Return for each box the greatest length of a ladder in its corner."""
    below = (0,) * (stair.wide + 1)
    sizes = ()
    for boxes in stair.rows[::-1]:
        line = (0,)
        for column in reversed(range(stair.wide)):
            size = max(line[0], below[column], boxes[column] + below[column + 1])
            line = (size,) + line
        sizes = (line[:-1],) + sizes
        below = line
    return sizes


def ladder_size(stair):
    """Return the greatest length of a ladder, 0 if no box is full."""
    return corner_sizes(stair)[0][0]


def size_at(sizes, row, column):
    """Return the size that is told for the corner, 0 for a corner without rows or columns."""
    if row == len(sizes) or column == len(sizes[0]):
        return 0
    return sizes[row][column]


def ladder(stair):
    """Return a ladder of the greatest length, a tuple of boxes."""
    sizes = corner_sizes(stair)
    boxes = ()
    row = 0
    column = 0
    while size_at(sizes, row, column) > 0:
        size = sizes[row][column]
        if size_at(sizes, row + 1, column) == size:
            row += 1
        elif size_at(sizes, row, column + 1) == size:
            column += 1
        else:
            boxes = boxes + ((row, column),)
            row += 1
            column += 1
    return boxes


def is_full_box(stair, box):
    """Tell whether the pair of integers is a full box of the stair."""
    row, column = box
    if not is_from(row, 0, stair.high - 1) or not is_from(column, 0, stair.wide - 1):
        return False
    return stair.rows[row][column] == 1


def goes_on(stair, boxes, place):
    """Tell whether the pair of integers there is a full box below and right of the one before."""
    row, column = boxes[place]
    if not is_full_box(stair, boxes[place]):
        return False
    return place == 0 or (row > boxes[place - 1][0] and column > boxes[place - 1][1])


def is_ladder(stair, boxes):
    """Tell whether the boxes are a ladder of the stair."""
    if not all([is_pair(box) for box in boxes]):
        return False
    return all([goes_on(stair, boxes, place) for place in range(len(boxes))])


def hooks(stair, boxes):
    """Return the hooks of the boxes of a ladder: the ways that turn there alone."""
    ways_found = ()
    for place, box in enumerate(boxes):
        if not is_pair(box):
            raise BadBox(-1, -1)
        row, column = box
        if not goes_on(stair, boxes, place):
            raise BadBox(row, column)
        ways_found = ways_found + (((row, column),),)
    return ways_found


def ladder_of(ways):
    """Return the ladder that the ways of a company yield."""
    boxes = ()
    for way in reversed(list(ways)):
        if len(boxes) == 0:
            box = way[0]
        else:
            # The turns at even places are those down.
            box = [turn for turn in way[::2] if turn[0] < boxes[0][0]][-1]
        boxes = (tuple(box),) + boxes
    return boxes
