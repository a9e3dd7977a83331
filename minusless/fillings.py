"""Fillings of part-empty tables, told by the numbers in the blanks of their cores."""

from minusless.blanks import boxes_known, filled_with, known_core
from minusless.errors import BadNumber, NoFilling, OtherSize
from minusless.loose import no_filling
from minusless.mainrule import core_fault, is_good, stair_of
from minusless.making import made
from minusless.minors import rank_of
from minusless.numbers import NOUGHT, check_row, sign_of
from minusless.stairs import Stair
from minusless.unmaking import unmade


def core_with(part, numbers):
    """Return the core with the numbers in the blanks."""
    return filled_with(known_core(part), numbers)


def least_core(part):
    """Return the core with 0 in the blanks."""
    return core_with(part, [NOUGHT] * len(part.blanks()))


def check_fillable(part):
    """Refuse a part-empty table that has no good filling."""
    paper_found = no_filling(part)
    if paper_found is not None:
        rows, columns = paper_found
        raise NoFilling(rows, columns)


def check_blank_count(part, numbers):
    """Refuse another number of numbers than there are blanks."""
    if len(numbers) != len(part.blanks()):
        raise OtherSize(len(numbers), len(part.blanks()))


def is_fillable(part):
    """Tell whether there is a good filling."""
    # No box left of a blank or above it is full, so the blanks are at fault nowhere.
    return core_fault(least_core(part)) is None


def filled(part, numbers):
    """Return the filling with these numbers in the blanks of its core."""
    found = check_row(numbers)
    check_blank_count(part, found)
    return made(core_with(part, found))


def good_filling(part, numbers):
    """Return the good filling with these numbers in the blanks of its core."""
    check_fillable(part)
    found = check_row(numbers)
    for place, number in enumerate(found):
        if sign_of(number) < 0:
            raise BadNumber(place)
    check_blank_count(part, found)
    core = core_with(part, found)
    Stair.of_core(core)
    return made(core)


def numbers_in(part, table):
    """Return the numbers in the blanks of the table's core, None if it is no good filling."""
    if not part.agrees(table) or not is_good(table):
        return None
    core = unmade(table)
    return tuple([core.rows[row][column] for row, column in part.blanks()])


def least_filling(part):
    """Return the good filling with 0 in the blanks of its core."""
    check_fillable(part)
    return made(least_core(part))


def is_free(numbers, row, column):
    """Tell whether the blank of these numbers of the known core is free."""
    for at in range(row + 1, len(numbers)):
        if numbers[at][column] == NOUGHT and has_full(numbers[at][:column]):
            return False
    for place in range(column + 1, len(numbers[0])):
        if numbers[row][place] == NOUGHT and has_full([line[place] for line in numbers[:row]]):
            return False
    return True


def has_full(numbers):
    """Tell whether one of the numbers is known and not 0."""
    return any([number is not None and number != NOUGHT for number in numbers])


def free_blanks(part):
    """Return the free blanks in reading order."""
    check_fillable(part)
    numbers = known_core(part)
    return tuple([(row, column) for row, column in boxes_known(numbers, False) if is_free(numbers, row, column)])


def rank_low(part):
    """Return the rank of the least filling."""
    return rank_of(least_filling(part))


def bound_stair(part):
    """Return the Stair of the least filling."""
    return stair_of(least_filling(part))
