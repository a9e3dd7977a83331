"""The errors of the package, each one holding what it tells as attributes."""


class MinusError(ValueError):
    """The base of all errors of the package."""


class BadNumber(MinusError):
    """No number, or not the one that is needed, at this place of its row; -1 for a value alone."""

    def __init__(self, place):
        self.place = place


class BadTable(MinusError):
    """No table: the fault is in this row, or in the whole if it is -1."""

    def __init__(self, row):
        self.row = row


class BadBox(MinusError):
    """No such box, row or column."""

    def __init__(self, row, column):
        self.row = row
        self.column = column


class BadBlank(MinusError):
    """A blank where a known number is needed."""

    def __init__(self, row, column):
        self.row = row
        self.column = column


class BadLot(MinusError):
    """No lot: the fault is at this place, or in the whole if it is -1."""

    def __init__(self, place):
        self.place = place


class OtherSize(MinusError):
    """Two sizes that should be equal and are not."""

    def __init__(self, one, other):
        self.one = one
        self.other = other


class NotSquare(MinusError):
    """A table that should be square and is not."""

    def __init__(self, high, wide):
        self.high = high
        self.wide = wide


class NoTurning(MinusError):
    """A determinant that must not be 0 is 0."""


class TooMany(MinusError):
    """More than this bound, or fewer than are needed beyond it."""

    def __init__(self, bound):
        self.bound = bound


class BadText(MinusError):
    """A string that cannot be read: the fault is in this line, or in the whole if it is -1."""

    def __init__(self, line):
        self.line = line


class BadChip(MinusError):
    """No chip, or none that fits, at this place."""

    def __init__(self, place):
        self.place = place


class BadStair(MinusError):
    """No stair: this empty box has a full one left of it and one above it."""

    def __init__(self, row, column):
        self.row = row
        self.column = column


class NotGood(MinusError):
    """A table that should be good and is not: this box of its core shows it."""

    def __init__(self, row, column):
        self.row = row
        self.column = column


class BadStep(MinusError):
    """No step at this place."""

    def __init__(self, place):
        self.place = place


class NoStep(MinusError):
    """There is nothing that could be done here."""


class BadCode(MinusError):
    """No code: the fault is at this place, or in the whole if it is -1."""

    def __init__(self, place):
        self.place = place


class BadWord(MinusError):
    """No word: the fault is at this place, or in the whole if it is -1."""

    def __init__(self, place):
        self.place = place


class BadWant(MinusError):
    """The argument of this name is out of its range."""

    def __init__(self, word):
        self.word = word


class NoFilling(MinusError):
    """No good filling: these rows and columns show it."""

    def __init__(self, rows, columns):
        self.rows = rows
        self.columns = columns


class BadDeed(MinusError):
    """No deed that begins with this word can be done."""

    def __init__(self, word):
        self.word = word


class Ended(MinusError):
    """What is asked for is over already, or not there yet."""
