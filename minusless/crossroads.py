"""Cross roads: the roads of the turned pattern; and stairs told apart."""

from minusless.checks import check_alike
from minusless.errors import BadWant, NotGood
from minusless.numbers import NOUGHT, over
from minusless.roadminors import minor_rows, next_minor, sized_rows
from minusless.roads import check_road_box, pattern_rows, road_lots, road_on, tree_boxes
from minusless.tables import Table, turned_rows


def cross_road(pattern, row, column):
    """Return the cross road of the box, a tuple of boxes."""
    rows = pattern_rows(pattern)
    check_road_box(rows, row, column)
    return tuple([(high, wide) for wide, high in road_on(turned_rows(rows), column, row)])


def cross_minors(table, pattern):
    """Return the Table of the cross minors of all boxes."""
    turned = turned_rows(sized_rows(table, pattern))
    return Table(minor_rows(table.turned(), turned)).turned()


def by_cross_roads(table, pattern):
    """Return the Table of the cross minors, each divided by that of the second box of its cross road."""
    turned = turned_rows(sized_rows(table, pattern))
    # The numbers of each box stand exchanged here: minors[column][row].
    minors = minor_rows(table.turned(), turned)
    found = []
    for row in range(table.high):
        shares = [next_minor(minors, turned, column, row) for column in range(table.wide)]
        if NOUGHT in shares:
            raise NotGood(row, shares.index(NOUGHT))
        found = found + [[over(minors[column][row], share) for column, share in enumerate(shares)]]
    return Table(found)


def first_unlike(one, other):
    """Return the first box in the tree's order in which two patterns differ, None if they are equal."""
    rows = pattern_rows(one)
    others = pattern_rows(other)
    check_alike(rows, others)
    for row, column in tree_boxes(rows):
        if rows[row][column] != others[row][column]:
            return (row, column)
    return None


def telling_minor(one, other):
    """Return the lots of a minor that is above 0 in the cell of one stair and nought in that of the other."""
    box = first_unlike(one, other)
    if box is None:
        raise BadWant("other")
    row, column = box
    return road_lots(one, row, column)
