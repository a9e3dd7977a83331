"""Desks: a table with its core, its pattern and its verdict, through all changes."""

from minusless.boxways import count_full
from minusless.checks import check_want, is_int, is_series
from minusless.errors import BadBox, BadDeed, BadText, MinusError, NoStep, TooMany
from minusless.finding import paper_for
from minusless.mainrule import core_fault
from minusless.minors import rank_of
from minusless.numbering import number_of_stair
from minusless.numbers import is_number, read_number, written
from minusless.stairs import Stair, pattern_of
from minusless.steps import step_on
from minusless.tables import Table, check_box
from minusless.unmaking import unmade

MOST_DEEDS = 200
FORMS = {"step": ("kind", "place", "number"), "take_back": ("kind", "place", "number"),
         "raise_entry": ("place", "place", "number"), "put_row": ("place", "row"), "put_column": ("place", "row"),
         "leave_row": ("place",), "leave_column": ("place",), "copy_row": ("place",), "turn": (), "half_turn": (),
         "take_with": ("table",)}


def check_mark(table, box):
    """Return the box of the table as a tuple, or None."""
    if box is None:
        return None
    if not is_series(box) or len(box) != 2:
        raise BadBox(-1, -1)
    check_box(table, box[0], box[1])
    return tuple(box)


def mark_behind(table, mark):
    """Return the mark if the table has such a box, else None."""
    if mark is None or mark[0] >= table.high or mark[1] >= table.wide:
        return None
    return mark


def verdict_on(core):
    """Return the verdict on the table of the core."""
    return "good" if core_fault(core) is None else "not good"


def check_part(part):
    """Return the word if it has a character."""
    if part == "":
        raise BadText(-1)
    return part


def read_place(part):
    """Return the integer that the word tells."""
    top, under = read_number(part)
    if under != 1:
        raise BadText(-1)
    return top


def read_numbers(parts):
    """Return the numbers that the words tell, at least one."""
    if len(parts) == 0:
        raise BadText(-1)
    return tuple([read_number(part) for part in parts])


def read_argument(form, parts):
    """Return the argument of this form that the words tell."""
    if form == "table":
        return Table.read(" ".join(parts).replace(";", "\n"))
    if form == "row":
        return read_numbers(parts)
    if len(parts) == 0:
        raise BadText(-1)
    if form == "kind":
        return check_part(parts[0])
    return read_place(parts[0]) if form == "place" else read_number(parts[0])


def read_arguments(forms, parts):
    """Return the arguments of these forms that the words tell."""
    found = ()
    rest = parts
    for form in forms:
        found = found + (read_argument(form, rest),)
        # A row and a table go on to the last word.
        rest = [] if form in ("row", "table") else rest[1:]
    if len(rest) > 0:
        raise BadText(-1)
    return found


def read_deed(words):
    """Return the word and the arguments of the deed that the string tells."""
    if not isinstance(words, str):
        raise BadDeed("")
    parts = words.split(" ")
    word = parts[0]
    if "\n" in words or word not in FORMS:
        raise BadDeed(word)
    try:
        return (word, read_arguments(FORMS[word], parts[1:]))
    except MinusError as why:
        raise BadDeed(word) from why


def argument_words(value):
    """Return the string of an argument of a deed that can be done."""
    if isinstance(value, Table):
        return value.words().replace("\n", ";")
    if isinstance(value, str):
        return value
    if is_int(value):
        return str(value)
    if is_number(value):
        return written(value)
    return " ".join([written(number) for number in value])


def deed_words(word, arguments):
    """Return the string of a deed."""
    return " ".join([word] + [argument_words(value) for value in arguments])


def table_changed(table, word, arguments):
    """Return the table behind a deed that changes its rows or columns."""
    if word == "put_row":
        return table.with_row(arguments[0], arguments[1])
    if word == "put_column":
        return table.with_column(arguments[0], arguments[1])
    if word == "leave_row":
        return table.without_row(arguments[0])
    if word == "leave_column":
        return table.without_column(arguments[0])
    return table.copied_row(arguments[0])


def table_behind(table, word, arguments):
    """Return the table behind the deed."""
    if word in ("step", "take_back"):
        kind, at, amount = arguments
        return step_on(table, kind, at, amount, back=word == "take_back")
    if word == "raise_entry":
        row, column, number = arguments
        return table.raised(row, column, number)
    if word == "turn":
        return table.turned()
    if word == "half_turn":
        return table.half_turned()
    if word == "take_with":
        return table * arguments[0]
    return table_changed(table, word, arguments)


class Desk:
    """A table, its core, its pattern, its verdict, the deeds done so far and a marked box."""

    def __init__(self, table, *, marked=None):
        self.spot = check_mark(table, marked)
        self.deeds = ()
        # The table and the marked box ahead of each deed.
        self.past = ()
        self.lay(table)

    def lay(self, table):
        """Put the table on the desk, with all that belongs to it."""
        core = unmade(table)
        self.table = table
        self.core = core
        self.pattern = pattern_of(core)
        self.judgement = verdict_on(core)

    @property
    def verdict(self):
        """Tell "good" or "not good"."""
        return self.judgement

    @property
    def marked(self):
        """Tell the marked box, None if there is none."""
        return self.spot

    @marked.setter
    def marked(self, value):
        self.spot = check_mark(self.table, value)

    def put_mark(self, box):
        """Mark the box, or none."""
        self.spot = check_mark(self.table, box)

    def change(self, table, deeds, past, spot):
        """Put another table on the desk; return both verdicts and how many full boxes there are more."""
        before = self.judgement
        full = count_full(self.core)
        self.lay(table)
        self.deeds = deeds
        self.past = past
        self.spot = spot
        return (before, self.judgement, count_full(self.core) - full)

    def do_deed(self, word, arguments, words):
        """Do the deed and keep its string; None stands for the one that its arguments make."""
        table = table_behind(self.table, word, arguments)
        if len(self.deeds) >= MOST_DEEDS:
            raise TooMany(MOST_DEEDS)
        kept = deed_words(word, arguments) if words is None else words
        past = self.past + ((self.table, self.spot),)
        return self.change(table, self.deeds + (kept,), past, mark_behind(table, self.spot))

    def step(self, kind, at, amount):
        """Do a step."""
        return self.do_deed("step", (kind, at, amount), None)

    def take_back(self, kind, at, amount):
        """Take a step back."""
        return self.do_deed("take_back", (kind, at, amount), None)

    def raise_entry(self, row, column, number):
        """Add the number to an entry."""
        return self.do_deed("raise_entry", (row, column, number), None)

    def put_row(self, at, row):
        """Put in a row, which gets the number at."""
        return self.do_deed("put_row", (at, row), None)

    def put_column(self, at, column):
        """Put in a column, which gets the number at."""
        return self.do_deed("put_column", (at, column), None)

    def leave_row(self, at):
        """Leave out a row."""
        return self.do_deed("leave_row", (at,), None)

    def leave_column(self, at):
        """Leave out a column."""
        return self.do_deed("leave_column", (at,), None)

    def copy_row(self, at):
        """Put a copy of a row below it."""
        return self.do_deed("copy_row", (at,), None)

    def turn(self):
        """Exchange rows and columns."""
        return self.do_deed("turn", (), None)

    def half_turn(self):
        """Turn the rows and the columns backwards."""
        return self.do_deed("half_turn", (), None)

    def take_with(self, table):
        """Multiply the desk's table by that one."""
        return self.do_deed("take_with", (table,), None)

    def carry_out(self, words):
        """Do the deed of the string."""
        word, arguments = read_deed(words)
        return self.do_deed(word, arguments, words)

    def what_if(self, words):
        """Return the verdict that the deed of the string would give."""
        word, arguments = read_deed(words)
        return verdict_on(unmade(table_behind(self.table, word, arguments)))

    def go_back(self, many):
        """Take so many of the last deeds back."""
        check_want(many, 0, len(self.deeds), "many")
        if many == 0:
            return (self.judgement, self.judgement, 0)
        place = len(self.deeds) - many
        table, spot = self.past[place]
        return self.change(table, self.deeds[:place], self.past[:place], spot)

    def undo(self):
        """Take the last deed back."""
        if len(self.deeds) == 0:
            raise NoStep()
        return self.go_back(1)

    def paper(self):
        """Return a paper that shows the verdict."""
        return paper_for(self.table)

    def cell(self):
        """Return the number of the table's stair, None if the table is not good."""
        return number_of_stair(Stair(self.pattern)) if self.judgement == "good" else None

    def ranks(self):
        """Return the rank of the table."""
        return rank_of(self.table)
