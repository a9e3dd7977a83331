"""Road minors: one minor for each box of a pattern."""

from minusless.errors import NotGood, OtherSize
from minusless.minors import minor
from minusless.numbers import NOUGHT, ONE, over, sign_of, times
from minusless.roads import check_road_box, pattern_rows, road_on, tree_boxes
from minusless.stairs import Stair, pattern_of
from minusless.tables import Table


def check_same_size(table, rows):
    """Refuse rows of a pattern that have another size than the table."""
    if table.high != len(rows):
        raise OtherSize(table.high, len(rows))
    if table.wide != len(rows[0]):
        raise OtherSize(table.wide, len(rows[0]))


def sized_rows(table, pattern):
    """Return the rows of a pattern of the table's size."""
    rows = pattern_rows(pattern)
    check_same_size(table, rows)
    return rows


def minor_at(table, rows, row, column):
    """Return the road minor of the box for the rows of a pattern."""
    boxes = road_on(rows, row, column)
    return minor(table, [high for high, _ in boxes], [wide for _, wide in boxes])


def minor_rows(table, rows):
    """Return the rows of the road minors of all boxes for the rows of a pattern."""
    return [[minor_at(table, rows, row, column) for column in range(table.wide)] for row in range(table.high)]


def road_minor(table, pattern, row, column):
    """Return the road minor of the box."""
    rows = sized_rows(table, pattern)
    check_road_box(rows, row, column)
    return minor_at(table, rows, row, column)


def road_minors(table, pattern):
    """Return the Table of the road minors of all boxes."""
    return Table(minor_rows(table, sized_rows(table, pattern)))


def by_roads(table, pattern):
    """Return the Table of the road minors, each divided by the road minor of its box's next."""
    rows = sized_rows(table, pattern)
    minors = minor_rows(table, rows)
    found = []
    for row, numbers in enumerate(minors):
        shares = [next_minor(minors, rows, row, column) for column in range(table.wide)]
        if NOUGHT in shares:
            raise NotGood(row, shares.index(NOUGHT))
        found = found + [[over(number, share) for number, share in zip(numbers, shares)]]
    return Table(found)


def next_minor(minors, rows, row, column):
    """Return the road minor of the next of the box, 1 if there is none."""
    boxes = road_on(rows, row, column)
    if len(boxes) == 1:
        return ONE
    return minors[boxes[1][0]][boxes[1][1]]


def road_product(core, row, column):
    """Return the product of the numbers of the core at the boxes of the road in its pattern."""
    rows = pattern_of(core)
    check_road_box(rows, row, column)
    product_found = ONE
    for high, wide in road_on(rows, row, column):
        product_found = times(product_found, core.rows[high][wide])
    return product_found


def stair_given(stair):
    """Return the rows of a Stair, or of the stair that is given by its rows."""
    return stair.rows if isinstance(stair, Stair) else Stair(stair).rows


def cell_faults(table, stair):
    """Return the boxes whose test of the stair's cell the table fails, in the tree's order."""
    rows = stair_given(stair)
    check_same_size(table, rows)
    return tuple([box for box in tree_boxes(rows) if not passes(table, rows, box)])


def passes(table, rows, box):
    """Tell whether the table passes the test of the box: above 0 if it is full, 0 if it is empty."""
    row, column = box
    return sign_of(minor_at(table, rows, row, column)) == rows[row][column]


def in_cell(table, stair):
    """Tell whether the table passes all tests of the stair's cell."""
    return len(cell_faults(table, stair)) == 0
