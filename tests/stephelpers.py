"""Steps worked out from the words of the document."""

from fractions import Fraction

from helpers import frac, num
from minusless.tables import Table

KINDS = ("down", "up", "right", "left")
WRONG_KINDS = (None, 1, "", "Down", "downs", "step", "row", ("down",), ["down"], True)
WRONG_AMOUNTS = (None, 1, 1.0, "1", (0, 1), (-1, 2), (2, 4), [1, 1], (1, 0), (True, 1), (1, 1, 1))
WRONG_PLACES = (None, True, False, 1.0, "0", (0,), -1)


def num_of(value):
    return num(Fraction(value))


def plain_step(table, kind, at, amount, sign=1):
    """The table behind the step, or behind taking it back for the sign -1."""
    rows = [[frac(number) for number in row] for row in table.rows]
    factor = sign * frac(amount)
    if kind == "down":
        rows[at + 1] = [b + factor * a for a, b in zip(rows[at], rows[at + 1])]
    elif kind == "up":
        rows[at] = [a + factor * b for a, b in zip(rows[at], rows[at + 1])]
    else:
        for row in rows:
            if kind == "right":
                row[at + 1] += factor * row[at]
            else:
                row[at] += factor * row[at + 1]
    return Table([[num(value) for value in row] for row in rows])


def places(table, kind):
    """The places of the steps of this kind."""
    return range((table.high if kind in ("down", "up") else table.wide) - 1)


def place_error(kind, at):
    """The attributes of the BadBox for this place."""
    return (at, -1) if kind in ("down", "up") else (-1, at)


def full_many(table):
    return sum(number != (0, 1) for row in table.rows for number in row)
