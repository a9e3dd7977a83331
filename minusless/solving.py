"""Tables turned back: the rows that a table takes to given rows."""

from minusless.minors import check_square, first_led
from minusless.numbers import less, over, times
from minusless.tables import Table, turned_rows


def less_part(row, part, lead):
    """Return the row, less the part times the row lead."""
    return [less(number, times(part, other)) for number, other in zip(row, lead)]


def cleared_beside(rows, at, place):
    """Return the rows with 1 at the place of row at and 0 at this place of all others."""
    lead = [over(number, rows[at][place]) for number in rows[at]]
    return [lead if other == at else less_part(row, row[place], lead) for other, row in enumerate(rows)]


def solutions(rows, wanted):
    """Return for each row wanted the row that the rows take to it, None if their determinant is 0.

    There are as many rows as columns, and as many numbers in each row wanted.
    """
    size = len(rows)
    left = [list(row) + list(more) for row, more in zip(rows, turned_rows(wanted))]
    for place in range(size):
        below = first_led([row[place:] for row in left[place:]])
        if below is None:
            return None
        chosen_row = left[place + below]
        left = left[:place] + [chosen_row] + left[place:place + below] + left[place + below + 1:]
        left = cleared_beside(left, place, place)
    return turned_rows([row[size:] for row in left])


def solution(rows, wanted):
    """Return the row that the rows take to the row wanted, for a determinant that is not 0."""
    return solutions(rows, [wanted])[0]


def inverse_rows(table):
    """Return the rows of the table whose product with this square table is the unit table, None if there is none."""
    check_square(table)
    found = solutions(table.rows, Table.unit(table.high).rows)
    return None if found is None else turned_rows(found)
