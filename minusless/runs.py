"""Runs: steps done one behind the other; and good tables peeled until a diagonal is left."""

from minusless.boxways import count_full
from minusless.checks import check_alike, is_series
from minusless.errors import BadStep
from minusless.mainrule import good_core
from minusless.steps import ColumnStep, RowStep
from minusless.takingback import goes_back, take_most
from minusless.unmaking import unmade


def check_steps(steps):
    """Return the steps of a run as a tuple."""
    if not is_series(steps):
        raise BadStep(-1)
    for place, step in enumerate(steps):
        if not isinstance(step, RowStep) and not isinstance(step, ColumnStep):
            raise BadStep(place)
    return tuple(steps)


def tables_behind(steps, table):
    """Return the tables behind the first step, the second, and so on."""
    found = []
    now = table
    for step in steps:
        now = step.done(now)
        found = found + [now]
    return found


class Run:
    """A row of steps; it never changes."""

    def __init__(self, steps=()):
        self.steps = check_steps(steps)

    def done(self, table):
        """Return the table behind all steps."""
        return ([table] + tables_behind(self.steps, table))[-1]

    def cores(self, table):
        """Return the cores behind the first step, the second, and so on."""
        good_core(table)
        return tuple([unmade(behind) for behind in tables_behind(self.steps, table)])

    def growth(self, table):
        """Return the numbers of full boxes of the core ahead of the first step and behind each step."""
        cores = (good_core(table),) + self.cores(table)
        return tuple([count_full(core) for core in cores])

    def turned_run(self):
        """Return the run of the turned steps in the same order."""
        return Run([step.turned_step() for step in self.steps])

    def __add__(self, other):
        if not isinstance(other, Run):
            return NotImplemented
        return Run(self.steps + other.steps)

    def __eq__(self, other):
        return isinstance(other, Run) and self.steps == other.steps

    def __len__(self):
        return len(self.steps)

    def __iter__(self):
        return iter(self.steps)


def run_of(*steps):
    """Return the run of these steps."""
    return Run(steps)


def nought_place(core):
    """Return the first row of 0 that is not the only one, None if there is none."""
    if core.high == 1:
        return None
    places = [at for at in range(core.high) if core.has_nought_row(at)]
    return places[0] if len(places) > 0 else None


def back_place(core):
    """Return the least place of a step down that can be taken back, None if there is none."""
    places = [at for at in range(core.high - 1) if goes_back(core, at)]
    return places[0] if len(places) > 0 else None


def first_deed(core):
    """Return the first deed that can be done to the good table of this core, as (word, place), or None."""
    turned = core.turned()
    deeds = [("row", nought_place(core)), ("column", nought_place(turned)),
             ("down", back_place(core)), ("right", back_place(turned))]
    possible = [(word, at) for word, at in deeds if at is not None]
    return possible[0] if len(possible) > 0 else None


def behind_deed(table, deed):
    """Return the table behind the deed."""
    word, at = deed
    if word == "row":
        return table.without_row(at)
    if word == "column":
        return table.without_column(at)
    return take_most(table, word, at)


def peeled(table):
    """Return the table that is left when all that can be taken off is, and the deeds that do it."""
    left = table
    deeds = ()
    deed = first_deed(good_core(table))
    while deed is not None:
        left = behind_deed(left, deed)
        deeds = deeds + (deed,)
        deed = first_deed(unmade(left))
    return (left, deeds)


def boxes_between(one, other):
    """Return how many full boxes the core of other has more than that of one."""
    check_alike(one.rows, other.rows)
    before = count_full(good_core(one))
    return count_full(good_core(other)) - before
