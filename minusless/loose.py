"""Loose minors of part-empty tables, and papers that there is no good filling."""

from minusless.asking import barring_row, column_paper
from minusless.blanks import known_core
from minusless.errors import BadBlank
from minusless.minors import check_lots, determinant_of
from minusless.numbers import NOUGHT, sign_of
from minusless.roads import road_lots, tree_boxes


def members_of(part, rows, columns):
    """Return the numbers and blanks of the rows in the columns."""
    return [[part.rows[row][column] for column in columns] for row in rows]


def is_loose_part(members):
    """Tell whether the minor of these numbers and blanks is loose."""
    blank = [(at, place) for at, row in enumerate(members) for place, member in enumerate(row) if member is None]
    if blank == [(0, 0)]:
        return determinant_of([row[1:] for row in members[1:]]) == NOUGHT
    return len(blank) == 0


def value_of(members):
    """Return the loose value of these numbers and blanks."""
    return determinant_of([[NOUGHT if member is None else member for member in row] for row in members])


def is_loose(part, rows, columns):
    """Tell whether the minor is the same in all fillings, as it shows at once."""
    row_lot, column_lot = check_lots(rows, columns, part.high, part.wide)
    return is_loose_part(members_of(part, row_lot, column_lot))


def loose_value(part, rows, columns):
    """Return the minor that all fillings have."""
    row_lot, column_lot = check_lots(rows, columns, part.high, part.wide)
    members = members_of(part, row_lot, column_lot)
    if not is_loose_part(members):
        raise BadBlank(row_lot[0], column_lot[0])
    return value_of(members)


def paper_at(numbers, pattern, row, column):
    """Return the lots of the paper that this known box gives, None if it gives none."""
    sign = sign_of(numbers[row][column])
    if sign < 0:
        return road_lots(pattern, row, column)
    barring = barring_row(pattern, row, column) if sign > 0 else None
    return None if barring is None else column_paper(pattern, (row, column), barring)


def no_filling(part):
    """Return the lots of a minor that shows that there is no good filling, None if there is one."""
    numbers = known_core(part)
    # A blank counts as empty.
    pattern = [[0 if number is None or number == NOUGHT else 1 for number in row] for row in numbers]
    for row, column in tree_boxes(pattern):
        if numbers[row][column] is not None:
            paper_found = paper_at(numbers, pattern, row, column)
            if paper_found is not None:
                return paper_found
    return None


def holds_against(part, rows, columns):
    """Tell whether the minor is loose and below 0."""
    row_lot, column_lot = check_lots(rows, columns, part.high, part.wide)
    members = members_of(part, row_lot, column_lot)
    return is_loose_part(members) and sign_of(value_of(members)) < 0
