"""Powers of square tables, and tables turned back."""

from minusless.borders import star
from minusless.checks import check_want
from minusless.codes import column_code, greatest_code, row_code
from minusless.errors import NoStep, NoTurning
from minusless.minors import check_square
from minusless.numbers import NOUGHT, opposite
from minusless.results import MOST_TIMES
from minusless.solving import inverse_rows
from minusless.tables import Table


def exponent_to_greatest(code):
    """Return the least exponent at which the star powers of the code come to the greatest code."""
    goal = greatest_code(len(code))
    found = code
    exponent = 1
    while found != goal:
        found = star(code, found)
        exponent += 1
    return exponent


def all_power(table):
    """Return the least exponent of a power of the solid table that is all above."""
    rows_code = row_code(table)
    columns_code = column_code(table)
    if not neighbours_full(table):
        raise NoStep()
    # A solid table is all above if both its codes are the greatest.
    return max(exponent_to_greatest(rows_code), exponent_to_greatest(columns_code))


def power(table, times):
    """Return the product of so many tables like this one."""
    check_square(table)
    check_want(times, 0, MOST_TIMES, "times")
    found = Table.unit(table.high)
    for _ in range(times):
        found = found * table
    return found


def back_with_signs(table):
    """Return the table turned back, with the entries where row and column add up to an odd number multiplied by -1."""
    rows = inverse_rows(table)
    if rows is None:
        raise NoTurning()
    return Table([[opposite(number) if (row + column) % 2 == 1 else number for column, number in enumerate(numbers)]
                  for row, numbers in enumerate(rows)])


def neighbours_full(table):
    """Tell whether no entry next to the diagonal is 0."""
    check_square(table)
    rows = table.rows
    return all([rows[at][at + 1] != NOUGHT and rows[at + 1][at] != NOUGHT for at in range(table.high - 1)])
