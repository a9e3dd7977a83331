"""Tables chosen by their road minors."""

from minusless.checks import check_alike
from minusless.errors import BadBox
from minusless.minors import determinant_of
from minusless.numbers import NOUGHT, check_number, less, over
from minusless.roadminors import minor_rows, sized_rows
from minusless.roads import check_road_box, pattern_rows, road_on, tree_boxes
from minusless.tables import Table


def table_given(numbers):
    """Return the Table, or the one that is given by its rows."""
    return numbers if isinstance(numbers, Table) else Table(numbers)


def check_numbers_fit(rows, numbers):
    """Refuse numbers of another size than the rows of the pattern, and 0 at a full box."""
    check_alike(rows, numbers.rows)
    for row, column in tree_boxes(rows):
        if rows[row][column] == 1 and numbers.rows[row][column] == NOUGHT:
            raise BadBox(row, column)


def room_at(entries, boxes):
    """Return the road minor of these boxes with 0 as its first entry, and that of the boxes behind the first."""
    part = [[entries[row][column] for _, column in boxes] for row, _ in boxes]
    part[0][0] = NOUGHT
    return (determinant_of(part), determinant_of([line[1:] for line in part[1:]]))


def chosen_on(rows, numbers):
    """Return the Table with these road minors for the rows of a pattern."""
    check_numbers_fit(rows, numbers)
    entries = [[NOUGHT] * numbers.wide for _ in range(numbers.high)]
    # All other entries of a road minor stand ahead of its box in the tree's order.
    for row, column in tree_boxes(rows):
        rest, factor = room_at(entries, road_on(rows, row, column))
        entries[row][column] = over(less(numbers.rows[row][column], rest), factor)
    return Table(entries)


def chosen(pattern, numbers):
    """Return the Table whose road minors for the pattern are these numbers."""
    rows = pattern_rows(pattern)
    return chosen_on(rows, table_given(numbers))


def spoilt(table, pattern, row, column, number):
    """Return the Table with the same road minors for the pattern, but this number at the box."""
    rows = sized_rows(table, pattern)
    check_road_box(rows, row, column)
    check_number(number)
    minors = minor_rows(table, rows)
    minors[row][column] = number
    return chosen_on(rows, Table(minors))


def entry_room(table, pattern, row, column):
    """Return what the road minor of the box is with the entry 0, and the road minor of its next."""
    rows = sized_rows(table, pattern)
    check_road_box(rows, row, column)
    return room_at(table.rows, road_on(rows, row, column))
