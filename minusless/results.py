"""The stairs of results: of products, powers and changed tables."""

from minusless.checks import check_want, is_series
from minusless.errors import BadWant, NotSquare, OtherSize, TooMany
from minusless.greedy import some_core
from minusless.mainrule import stair_of
from minusless.making import made
from minusless.tables import Table

DEEDS = ("copied", "joined", "without row", "without column", "half", "turned")
MOST_LINES = 5
MOST_TIMES = 20


def some_table(stair):
    """Return a good table of the stair's cell; which one makes no difference to the stairs of results."""
    return made(some_core(stair))


def check_square_stair(stair):
    """Refuse a stair that is not square."""
    if stair.high != stair.wide:
        raise NotSquare(stair.high, stair.wide)


def product_stair(one, other):
    """Return the Stair of the products of tables of these two cells."""
    return stair_of(some_table(one) * some_table(other))


def product_noughts(one, other):
    """Return the Stair of the products of tables of these two cells, for small stairs."""
    if one.wide != other.high:
        raise OtherSize(one.wide, other.high)
    if one.high > MOST_LINES or one.wide > MOST_LINES or other.wide > MOST_LINES:
        raise TooMany(MOST_LINES)
    return product_stair(one, other)


def changed_by(table, deed, at):
    """Return the table behind the deed."""
    if deed == "copied":
        return table.copied_row(at)
    if deed == "joined":
        return table.joined_rows(at)
    if deed == "without row":
        return table.without_row(at)
    if deed == "without column":
        return table.without_column(at)
    return table.half_turned() if deed == "half" else table.turned()


def result_stair(stair, deed, at):
    """Return the Stair of the tables of the cell behind the deed."""
    if deed not in DEEDS:
        raise BadWant("deed")
    return stair_of(changed_by(some_table(stair), deed, at))


def power_stair(stair, times):
    """Return the Stair of the powers of the tables of the cell with this exponent."""
    check_square_stair(stair)
    check_want(times, 1, MOST_TIMES, "times")
    found = stair
    for _ in range(times - 1):
        found = product_stair(found, stair)
    return found


def product_of(tables):
    """Return the product of the Tables in their order."""
    if not is_series(tables) or len(tables) == 0 or not all([isinstance(table, Table) for table in tables]):
        raise BadWant("tables")
    found = tables[0]
    for table in tables[1:]:
        found = found * table
    return found
