"""Passages: what the ways through a core from above come to, and rows put on top of a table."""

from minusless.errors import BadTable, OtherSize, TooMany
from minusless.making import made_row
from minusless.numbers import check_row
from minusless.tables import LIMIT, Table
from minusless.unmaking import unmade, unmade_row


def check_fitting(table, row):
    """Return the row as a tuple of as many numbers as the table has columns."""
    found = check_row(row)
    if len(found) != table.wide:
        raise OtherSize(len(found), table.wide)
    return found


def through(core, row):
    """Return the row times the passage of the core."""
    found = row
    # The making round of a row multiplies by its passage.
    for by in core.rows:
        found = made_row(found, by)
    return found


def against(core, row):
    """Return the row whose product with the passage of the core is this row."""
    found = row
    for by in core.rows[::-1]:
        found = unmade_row(found, by)
    return found


def passage(core):
    """Return the passage of the core, a square Table."""
    return Table([through(core, row) for row in Table.unit(core.wide).rows])


def row_passage(row):
    """Return the passage of the row, a square Table."""
    found = check_row(row)
    if len(found) == 0:
        raise BadTable(-1)
    if len(found) > LIMIT:
        raise TooMany(LIMIT)
    return passage(Table([found]))


def up(table, row):
    """Return the row that comes on top of the core if this row is put on top of the table."""
    return against(unmade(table), check_fitting(table, row))


def down_from(table, row):
    """Return the row that must be put on top of the table so that this row comes on top of its core."""
    return through(unmade(table), check_fitting(table, row))
