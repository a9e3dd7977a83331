"""Boxes of a stair that may be filled or emptied."""

from minusless.stairs import Stair


def stays_stair(stair, box, sign):
    """Tell whether the pattern is a stair with 1 or 0 in the box."""
    row, column = box
    changed = stair.rows[row][:column] + (sign,) + stair.rows[row][column + 1:]
    return Stair.is_stair(stair.rows[:row] + (changed,) + stair.rows[row + 1:])


def fillable_boxes(stair):
    """Return the empty boxes each of which may be filled alone, in reading order."""
    return tuple([box for box in stair.empty_boxes() if stays_stair(stair, box, 1)])


def emptiable_boxes(stair):
    """Return the full boxes each of which may be emptied alone, in reading order."""
    return tuple([box for box in stair.full_boxes() if stays_stair(stair, box, 0)])


def lacking_one(high, wide):
    """Return the Stairs with only one empty box, in the reading order of that box."""
    full = Stair.all_full(high, wide)
    return tuple([full.without_box(row, column) for row, column in emptiable_boxes(full)])
