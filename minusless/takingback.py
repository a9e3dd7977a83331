"""Steps taken back from a good table, as far as it stays good."""

from minusless.coresteps import level_row
from minusless.errors import NoStep
from minusless.mainrule import good_core
from minusless.numbers import NOUGHT, over
from minusless.steps import KINDS, check_kind, check_place, step_on
from minusless.unmaking import unmade


def core_for_down(table, kind):
    """Return the core of the table turned so that steps of this kind are steps down."""
    if kind == "down":
        return unmade(table)
    if kind == "up":
        return unmade(table.half_turned())
    if kind == "right":
        return unmade(table.turned())
    return unmade(table.half_turned().turned())


def place_for_down(table, kind, at):
    """Return the place of the step in that core."""
    if kind == "up":
        return table.high - 2 - at
    return table.wide - 2 - at if kind == "left" else at


def first_in(row):
    """Return the first full column of a row of numbers, its length if there is none."""
    full = [column for column, number in enumerate(row) if number != NOUGHT]
    return full[0] if len(full) > 0 else len(row)


def goes_back(core, at):
    """Tell whether some amount of the step down can be taken back from the table of this core."""
    first = first_in(core.rows[at])
    return first < core.wide and first >= first_in(core.rows[at + 1])


def check_taking(table, kind, at):
    """Refuse a wrong kind, a wrong place and a table that is not good."""
    check_kind(kind)
    check_place(table, kind, at)
    good_core(table)


def may_take(table, kind, at):
    """Tell whether some amount of the step can be taken back so that the table changes and stays good."""
    check_taking(table, kind, at)
    return goes_back(core_for_down(table, kind), place_for_down(table, kind, at))


def most_back(table, kind, at):
    """Return the greatest amount of the step that can be taken back."""
    check_taking(table, kind, at)
    core = core_for_down(table, kind)
    place = place_for_down(table, kind, at)
    if not goes_back(core, place):
        raise NoStep()
    first = first_in(core.rows[place])
    return over(core.rows[place + 1][first], level_row(core, place)[first])


def take_most(table, kind, at):
    """Return the table behind taking the greatest amount of the step back."""
    return step_on(table, kind, at, most_back(table, kind, at), back=True)


def count_places(table, kind):
    """Return how many places the steps of this kind have."""
    return table.high - 1 if kind in ("down", "up") else table.wide - 1


def takeable(table):
    """Return all (kind, at) of the steps of which some amount can be taken back."""
    good_core(table)
    found = []
    for kind in KINDS:
        core = core_for_down(table, kind)
        places = [at for at in range(count_places(table, kind)) if goes_back(core, place_for_down(table, kind, at))]
        found = found + [(kind, at) for at in places]
    return tuple(found)
