"""Codes of solid tables, and the orders that they tell."""

from minusless.checks import check_want, is_from, is_series
from minusless.errors import BadBox, BadCode, NoTurning, OtherSize, TooMany
from minusless.mainrule import stair_of
from minusless.minors import check_square
from minusless.stairs import Stair
from minusless.tables import LIMIT

MOST_LISTED_SIZE = 5


def check_code_form(code):
    """Refuse what is no list or tuple of the length of a code."""
    if not is_series(code) or not is_from(len(code), 1, LIMIT):
        raise BadCode(-1)


def check_code(code):
    """Return the code as a tuple."""
    check_code_form(code)
    for place, value in enumerate(code):
        if not is_from(value, 0, place):
            raise BadCode(place)
    return tuple(code)


def check_code_size(size):
    """Refuse what is no size of a code."""
    check_want(size, 1, LIMIT, "size")


def solid_stair(table):
    """Return the stair of a solid table."""
    check_square(table)
    stair = stair_of(table)
    if not all([stair.rows[at][at] == 1 for at in range(stair.high)]):
        raise NoTurning()
    return stair


def row_code(table):
    """Return the row code of a solid table."""
    stair = solid_stair(table)
    return tuple([stair.first(row) for row in range(stair.high)])


def column_code(table):
    """Return the column code of a solid table."""
    stair = solid_stair(table)
    return tuple([stair.top(column) for column in range(stair.wide)])


def code_length(code):
    """Return the length of the code."""
    return sum([place - value for place, value in enumerate(check_code(code))])


def order_of(code):
    """Return the order of the code."""
    values = check_code(code)
    left = list(range(len(values)))
    order = ()
    # The last number of the order has just so many numbers below it among all that are left.
    for value in values[::-1]:
        number = left[value]
        left = [other for other in left if other != number]
        order = (number,) + order
    return order


def count_less(order, place):
    """Return how many numbers ahead of the place are less than the one there."""
    return len([other for other in order[:place] if other < order[place]])


def code_of_order(order):
    """Return the code of the order."""
    check_code_form(order)
    for place, number in enumerate(order):
        if not is_from(number, 0, len(order) - 1) or number in order[:place]:
            raise BadCode(place)
    return tuple([count_less(order, place) for place in range(len(order))])


def turned_order(code):
    """Return the code of the order turned back."""
    order = order_of(code)
    return code_of_order([order.index(number) for number in range(len(order))])


def reach(code, row, column):
    """Return how many numbers of the order from the place row on are at most column."""
    order = order_of(code)
    if not is_from(row, 0, len(order) - 1) or not is_from(column, 0, len(order) - 1):
        raise BadBox(row, column)
    return len([number for number in order[row:] if number <= column])


def check_code_pair(one, other):
    """Return two codes of one length as tuples."""
    code = check_code(one)
    other_code = check_code(other)
    if len(code) != len(other_code):
        raise OtherSize(len(code), len(other_code))
    return (code, other_code)


def stair_of_codes(rows_code, columns_code):
    """Return the Stair of the solid tables with this row code and this column code."""
    firsts, tops = check_code_pair(rows_code, columns_code)
    size = len(firsts)
    return Stair([[1 if firsts[row] <= column and tops[column] <= row else 0 for column in range(size)]
                  for row in range(size)])


def codes_listed(size):
    """Yield all codes of the size, ascending."""
    check_code_size(size)
    if size > MOST_LISTED_SIZE:
        raise TooMany(MOST_LISTED_SIZE)
    found = [()]
    for place in range(size):
        found = [code + (value,) for code in found for value in range(place + 1)]
    for code in found:
        yield code


def least_code(size):
    """Return the code below all others of the size."""
    check_code_size(size)
    return tuple(range(size))


def greatest_code(size):
    """Return the code above all others of the size."""
    check_code_size(size)
    return (0,) * size
