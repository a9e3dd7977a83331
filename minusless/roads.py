"""Roads of the boxes of a pattern."""

from minusless.stairs import Stair, check_pattern
from minusless.tables import check_box_in


def pattern_rows(pattern):
    """Return the rows of the pattern, a tuple of tuples."""
    if isinstance(pattern, Stair):
        return pattern.rows
    return check_pattern(pattern)


def check_road_box(rows, row, column):
    """Refuse a box that the rows of a pattern do not have."""
    check_box_in(len(rows), len(rows[0]), row, column)


def joining(boxes, column):
    """Return the column of the box of a row that joins a road which has come to the column, or None."""
    if boxes[column] == 0 or 1 not in boxes[column + 1:]:
        return None
    return boxes.index(1, column + 1)


def road_on(rows, row, column):
    """Return the road of a box in the rows of a pattern."""
    found = [(row, column)]
    for below in range(row + 1, len(rows)):
        joined = joining(rows[below], found[-1][1])
        if joined is not None:
            found = found + [(below, joined)]
    return tuple(found)


def tree_boxes(rows):
    """Return the boxes of the rows in the tree's order."""
    high = len(rows)
    wide = len(rows[0])
    return [(row, column) for row in reversed(range(high)) for column in reversed(range(wide))]


def road(pattern, row, column):
    """Return the road of the box, a tuple of boxes."""
    rows = pattern_rows(pattern)
    check_road_box(rows, row, column)
    return road_on(rows, row, column)


def next_box(pattern, row, column):
    """Return the second box of the road, None if there is none."""
    boxes = road(pattern, row, column)
    return boxes[1] if len(boxes) > 1 else None


def road_lots(pattern, row, column):
    """Return the lots of the rows and of the columns of the road."""
    boxes = road(pattern, row, column)
    return (tuple([high for high, _ in boxes]), tuple([wide for _, wide in boxes]))


def roads(pattern):
    """Yield the pairs (box, road) of all boxes in the tree's order."""
    rows = pattern_rows(pattern)
    for row, column in tree_boxes(rows):
        yield ((row, column), road_on(rows, row, column))


def road_ends(pattern):
    """Return the boxes that have no next, in reading order."""
    rows = pattern_rows(pattern)
    return tuple([(row, column) for row, column in tree_boxes(rows)[::-1] if len(road_on(rows, row, column)) == 1])
