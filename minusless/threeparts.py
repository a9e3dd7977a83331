"""A square table as a product of three: one below the diagonal, one on it and one above it."""

from minusless.errors import NoTurning
from minusless.mainrule import is_good
from minusless.minors import check_square, determinant
from minusless.numbers import NOUGHT, less, over, sign_of, times
from minusless.tables import Table


def unit_rows(size):
    """Return the rows of the unit table as lists."""
    return [list(row) for row in Table.unit(size).rows]


def three_parts(table):
    """Return the three tables of which the table is the product: with 1 on the diagonal, diagonal, and with 1 again."""
    check_square(table)
    size = table.high
    rows = [list(row) for row in table.rows]
    lower, middle, upper = (unit_rows(size), unit_rows(size), unit_rows(size))
    for at in range(size):
        lead = rows[at][at]
        if lead == NOUGHT:
            raise NoTurning()
        middle[at][at] = lead
        for place in range(at + 1, size):
            share = over(rows[place][at], lead)
            lower[place][at] = share
            upper[at][place] = over(rows[at][place], lead)
            rows[place] = less_multiple(rows[place], share, rows[at])
    return (Table(lower), Table(middle), Table(upper))


def less_multiple(row, factor, other):
    """Return the row, less the factor times the other row."""
    return [less(number, times(factor, part)) for number, part in zip(row, other)]


def is_solid(table):
    """Tell whether the table is square and good and has a determinant above 0."""
    return table.square and is_good(table) and sign_of(determinant(table)) > 0


def joined_parts(lower, middle, upper):
    """Return the product of the three tables."""
    return lower * middle * upper
