"""Papers found by the tree of tests."""

from minusless.asking import asked_through, barring_row
from minusless.errors import BadWant
from minusless.meanings import least_bad
from minusless.numbers import opposite, over, times
from minusless.papers import BadPaper, GoodPaper
from minusless.roads import road_on, tree_boxes
from minusless.unmaking import unmade


def paper_for(table):
    """Return the GoodPaper of a good table, else the BadPaper that the tree tells."""
    asker = asked_through(table)
    if asker.end == "good":
        return GoodPaper(table, unmade(table))
    return BadPaper(table, asker.paper_rows, asker.paper_columns)


def numbers_found(asker):
    """Return the numbers of the core at the boxes that the tree has asked, None at the others."""
    told = [[None] * asker.wide for _ in range(asker.high)]
    numbers = [[None] * asker.wide for _ in range(asker.high)]
    for (row, column), answer in zip(tree_boxes(asker.found), asker.answers):
        told[row][column] = answer
        numbers[row][column] = answer
        boxes = road_on(asker.found, row, column)
        if len(boxes) > 1:
            low, right = boxes[1]
            numbers[row][column] = over(answer, told[low][right])
    return numbers


def found_core(table):
    """Return the numbers of the core at the boxes that the tree asks, None at the others."""
    return tuple([tuple(row) for row in numbers_found(asked_through(table))])


def road_value(numbers, boxes):
    """Return the product of the numbers at the boxes, of which there is one or more."""
    value = numbers[boxes[0][0]][boxes[0][1]]
    for row, column in boxes[1:]:
        value = times(value, numbers[row][column])
    return value


def bad_value(table):
    """Return the value of the tree's bad paper, worked out from the numbers found."""
    asker = asked_through(table)
    if asker.end == "good":
        raise BadWant("table")
    numbers = numbers_found(asker)
    row, column = tree_boxes(asker.found)[asker.asked - 1]
    if asker.end == "below":
        return road_value(numbers, road_on(asker.found, row, column))
    low = barring_row(asker.found, row, column)
    # The paper's first column is that of the full box left of (low, column).
    boxes = ((row, column), (low, asker.paper_columns[0])) + road_on(asker.found, low, column)[1:]
    return opposite(road_value(numbers, boxes))


def least_paper(table):
    """Return the BadPaper of the first bad minor, None if the table is good."""
    lots_found = least_bad(table)
    if lots_found is None:
        return None
    rows, columns = lots_found
    return BadPaper(table, rows, columns)
