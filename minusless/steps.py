"""Steps: a multiple of one row or column added to its neighbour."""

from minusless.checks import check_want, is_count
from minusless.errors import BadBox, BadNumber, BadStep, BadWant
from minusless.numbers import opposite, plus, sign_of, times, written
from minusless.tables import LIMIT, Table, check_column_place, check_row_place

KINDS = ("down", "up", "right", "left")


def check_kind(kind):
    """Refuse what is none of the four words."""
    if kind not in KINDS:
        raise BadWant("kind")


def check_place(table, kind, at):
    """Refuse a place that does not fit into the table."""
    if kind in ("down", "up"):
        check_row_place(at, table.high - 1)
    else:
        check_column_place(at, table.wide - 1)


def check_amount(amount):
    """Return the amount if it is a number above 0."""
    if sign_of(amount) < 1:
        raise BadNumber(-1)
    return amount


def check_flag(value, word):
    """Return the value if it is True or False; the argument is called word."""
    if not isinstance(value, bool):
        raise BadWant(word)
    return value


def row_added(rows, start, stop, amount):
    """Return the rows with the amount times row start added to row stop."""
    changed = tuple([plus(old, times(amount, more)) for old, more in zip(rows[stop], rows[start])])
    return rows[:stop] + (changed,) + rows[stop + 1:]


def step_on(table, kind, at, amount, *, back=False):
    """Return the table behind the step, or behind taking it back."""
    check_kind(kind)
    check_place(table, kind, at)
    factor = check_amount(amount)
    if check_flag(back, "back"):
        factor = opposite(factor)
    if kind == "down":
        return Table(row_added(table.rows, at, at + 1, factor))
    if kind == "up":
        return Table(row_added(table.rows, at + 1, at, factor))
    rows = table.turned().rows
    if kind == "right":
        return Table(row_added(rows, at, at + 1, factor)).turned()
    return Table(row_added(rows, at + 1, at, factor)).turned()


class Step:
    """The base of the steps: a place and an amount."""

    KIND = "step"

    def __init__(self, at, amount):
        if not is_count(at):
            raise BadStep(-1)
        self.at = at
        self.amount = check_amount(amount)

    def kind_word(self):
        """Return the word that tells the kind."""
        return "step"

    def words(self):
        """Return the string of the step."""
        return f"{self.kind_word()} {self.at} {written(self.amount)}"

    def done(self, table):
        """Return the table behind the step."""
        return step_on(table, self.kind_word(), self.at, self.amount)

    def back(self, table):
        """Return the table behind taking the step back."""
        return step_on(table, self.kind_word(), self.at, self.amount, back=True)

    def __eq__(self, other):
        if not isinstance(other, Step) or self.KIND != other.KIND or self.kind_word() != other.kind_word():
            return False
        return self.at == other.at and self.amount == other.amount


class RowStep(Step):
    """A step down or up."""

    KIND = "row"

    def __init__(self, at, amount, up=False):
        Step.__init__(self, at, amount)
        self.against = check_flag(up, "up")

    def kind_word(self):
        """Return the word that tells the kind."""
        return "up" if self.against else "down"

    def turned_step(self):
        """Return the step that does the same to the turned table."""
        return ColumnStep(self.at, self.amount, self.against)

    def half_turned_step(self, size):
        """Return the step that does the same to the half-turned table of so many rows."""
        check_want(size, 1, LIMIT, "size")
        if self.at > size - 2:
            raise BadBox(self.at, -1)
        return RowStep(size - 2 - self.at, self.amount, not self.against)


class ColumnStep(Step):
    """A step right or left."""

    KIND = "column"

    def __init__(self, at, amount, left=False):
        Step.__init__(self, at, amount)
        self.against = check_flag(left, "left")

    def kind_word(self):
        """Return the word that tells the kind."""
        return "left" if self.against else "right"

    def turned_step(self):
        """Return the step that does the same to the turned table."""
        return RowStep(self.at, self.amount, self.against)

    def half_turned_step(self, size):
        """Return the step that does the same to the half-turned table of so many columns."""
        check_want(size, 1, LIMIT, "size")
        if self.at > size - 2:
            raise BadBox(-1, self.at)
        return ColumnStep(size - 2 - self.at, self.amount, not self.against)
