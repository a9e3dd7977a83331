"""Desks for the tests: what they hold, and deeds that can be done on them."""

from fractions import Fraction

from helpers import num, random_number
from minusless.mainrule import core_fault
from minusless.numbers import written
from minusless.stairs import pattern_of
from minusless.steps import step_on
from minusless.tables import Table
from minusless.unmaking import unmade
from stephelpers import KINDS, full_many

NOUGHT, ONE = (0, 1), (1, 1)
WRONG_STRINGS = (
    ("", ""), (" turn", ""), ("turn ", "turn"), ("turn 1", "turn"), ("turn\n", "turn\n"), ("Turn", "Turn"),
    ("half_turn  ", "half_turn"), ("half_turn 0", "half_turn"), ("step", "step"), ("step down", "step"),
    ("step down 0", "step"), ("step down 0 1 ", "step"), ("step down 0 1 1", "step"), ("step  0 1", "step"),
    ("step down  0 1", "step"), ("step down 0  1", "step"), ("step down 00 1", "step"), ("step down -0 1", "step"),
    ("step down +1 1", "step"), ("step down 1/2 1", "step"), ("step down 0 2/4", "step"), ("step down 0 1/1", "step"),
    ("step down 0 1.5", "step"), ("step down x 1", "step"), ("step down 0 one", "step"), ("step down 0\n1", "step"),
    ("step down 0 -0", "step"), ("take_back up 0", "take_back"), ("take_back up 0 1 2", "take_back"),
    ("raise_entry 0 0", "raise_entry"), ("raise_entry 0 0 1 1", "raise_entry"), ("raise_entry 0 1/2 1", "raise_entry"),
    ("raise_entry 0 0 x", "raise_entry"), ("put_row 0", "put_row"), ("put_row", "put_row"), ("put_row 0 ", "put_row"),
    ("put_row 0 1  1", "put_row"), ("put_row x 1", "put_row"), ("put_row 0 1 x", "put_row"),
    ("put_row 0 1 1 ", "put_row"), ("put_column 0", "put_column"), ("put_column 1/2 1", "put_column"),
    ("leave_row", "leave_row"), ("leave_row ", "leave_row"), ("leave_row 0 0", "leave_row"),
    ("leave_row 1/2", "leave_row"), ("leave_column", "leave_column"), ("leave_column 0 1", "leave_column"),
    ("copy_row", "copy_row"), ("copy_row x", "copy_row"), ("copy_row 1 ", "copy_row"), ("take_with", "take_with"),
    ("take_with ", "take_with"), ("take_with 1;", "take_with"), ("take_with ;1", "take_with"),
    ("take_with 1 2;3", "take_with"), ("take_with 1;;1", "take_with"), ("take_with 1 ;1", "take_with"),
    ("take_with 1; 1", "take_with"), ("take_with  1", "take_with"), ("take_with 1\n1", "take_with"),
    ("take_with 2/4", "take_with"), ("take_with x", "take_with"), ("undo", "undo"), ("go_back 1", "go_back"),
    ("put_mark 0 0", "put_mark"), ("carry_out turn", "carry_out"), ("paper", "paper"), ("step\tdown 0 1", "step\tdown"),
    ("take_with " + " ".join(["1"] * 13), "take_with"), ("take_with " + ";".join(["1"] * 13), "take_with"),
    ("leave_row " + "1" * 61, "leave_row"), ("raise_entry 0 0 1/" + "9" * 61, "raise_entry"),
    ("put_row 0 -" + "1" * 61, "put_row"), ("take_with " + "7" * 61, "take_with"))


def state(desk):
    return (desk.table, desk.core, desk.pattern, desk.verdict, desk.deeds, desk.marked)


def plain_verdict(table):
    return "good" if core_fault(unmade(table)) is None else "not good"


def holds_together(desk):
    """Whether core, pattern and verdict are those of the table."""
    return (desk.core == unmade(desk.table) and desk.pattern == pattern_of(desk.core)
            and desk.verdict == plain_verdict(desk.table))


def amount_of(rng):
    return num(Fraction(rng.randint(1, 4), rng.randint(1, 3)))


def random_deed(rng, table):
    """(word, arguments, table behind the deed), for tables of at most four rows and columns."""
    word = rng.choice(("step", "step", "step", "take_back", "raise_entry", "put_row", "put_column", "leave_row",
                       "leave_column", "copy_row", "turn", "half_turn", "take_with"))
    if word in ("step", "take_back"):
        kind = rng.choice(KINDS)
        places = (table.high if kind in ("down", "up") else table.wide) - 1
        if places == 0:
            return random_deed(rng, table)
        arguments = (kind, rng.randrange(places), amount_of(rng))
        return word, arguments, step_on(table, *arguments, back=word == "take_back")
    if word == "raise_entry":
        arguments = (rng.randrange(table.high), rng.randrange(table.wide), random_number(rng, low=-1))
        return word, arguments, table.raised(*arguments)
    if word == "put_row" and table.high < 4:
        arguments = (rng.randint(0, table.high), tuple(random_number(rng, low=0) for _ in range(table.wide)))
        return word, arguments, table.with_row(*arguments)
    if word == "put_column" and table.wide < 4:
        arguments = (rng.randint(0, table.wide), tuple(random_number(rng, low=0) for _ in range(table.high)))
        return word, arguments, table.with_column(*arguments)
    if word == "leave_row" and table.high > 1:
        at = rng.randrange(table.high)
        return word, (at,), table.without_row(at)
    if word == "leave_column" and table.wide > 1:
        at = rng.randrange(table.wide)
        return word, (at,), table.without_column(at)
    if word == "copy_row" and table.high < 4:
        at = rng.randrange(table.high)
        return word, (at,), table.copied_row(at)
    if word == "take_with":
        other = Table([[random_number(rng, low=0) for _ in range(rng_wide)] for rng_wide in
                       [rng.randint(1, 3)] * table.wide])
        return word, (other,), table * other
    if word == "half_turn":
        return word, (), table.half_turned()
    return "turn", (), table.turned()


def words_of(word, arguments):
    """The string of the deed."""
    parts = [word]
    for value in arguments:
        if isinstance(value, Table):
            parts.append(value.words().replace("\n", ";"))
        elif isinstance(value, (str, int)):
            parts.append(str(value))
        elif isinstance(value[0], int):
            parts.append(written(value))
        else:
            parts.append(" ".join(map(written, value)))
    return " ".join(parts)


def triple(before, after):
    return (plain_verdict(before), plain_verdict(after), full_many(unmade(after)) - full_many(unmade(before)))
