"""Making: from a core to the table made of it."""

from minusless.errors import OtherSize
from minusless.numbers import NOUGHT, check_row, over, plus, times
from minusless.tables import Table
from minusless.unmaking import check_row_pair


def made_row(row, by):
    """Return what the making round of the row by turns a row above it into."""
    changed, base = check_row_pair(row, by)
    found = ()
    # What the sum of all full columns further right comes to, for each 1 of the row by.
    share = NOUGHT
    for number, part in reversed(list(zip(changed, base))):
        total = plus(number, times(part, share))
        if part != NOUGHT:
            share = over(total, part)
        found = (total,) + found
    return found


def made(core):
    """Return the table made of the core."""
    table = Table(core.rows[:1])
    for row in core.rows[1:]:
        table = put_under(table, row)
    return table


def put_under(table, row):
    """Return the table whose core is the core of this table with the row under it."""
    added = check_row(row)
    if len(added) != table.wide:
        raise OtherSize(len(added), table.wide)
    return Table([made_row(above, added) for above in table.rows] + [added])
