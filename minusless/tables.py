"""Tables of numbers."""

from minusless.checks import check_want, is_from, is_series
from minusless.errors import BadBox, BadLot, BadTable, BadText, BadWant, OtherSize, TooMany
from minusless.lots import check_lot
from minusless.numbers import NOUGHT, ONE, check_number, check_row, plus, read_number, times, written

LIMIT = 12


def check_form(rows):
    """Refuse what is not 1 to 12 rows of one length from 1 to 12."""
    if not is_series(rows) or len(rows) == 0:
        raise BadTable(-1)
    for at, row in enumerate(rows):
        if not is_series(row) or len(row) == 0 or len(row) != len(rows[0]):
            raise BadTable(at)
    if len(rows) > LIMIT or len(rows[0]) > LIMIT:
        raise TooMany(LIMIT)


def check_box_in(high, wide, row, column):
    """Refuse what is no box of so many rows and columns."""
    if not is_from(row, 0, high - 1) or not is_from(column, 0, wide - 1):
        raise BadBox(row, column)


def check_box(grid, row, column):
    """Refuse a box that the table or the stair does not have."""
    check_box_in(grid.high, grid.wide, row, column)


def check_row_place(at, high):
    """Refuse what is no row of high rows."""
    if not is_from(at, 0, high - 1):
        raise BadBox(at, -1)


def check_column_place(at, wide):
    """Refuse what is no column of wide columns."""
    if not is_from(at, 0, wide - 1):
        raise BadBox(-1, at)


def check_sides(lot, size):
    """Return the lot of rows or columns of a part, which is not empty."""
    found = check_lot(lot, size)
    if len(found) == 0:
        raise BadLot(-1)
    return found


def dot(one, other):
    """Return the sum of the products of the numbers at equal places."""
    total = NOUGHT
    for left, right in zip(one, other):
        total = plus(total, times(left, right))
    return total


def read_line(words, line):
    """Return the numbers of one line of a table's string."""
    try:
        return [read_number(word) for word in words.split(" ")]
    except BadText as why:
        raise BadText(line) from why


def turned_rows(rows):
    """Return the columns as rows."""
    return list(zip(*rows))


class Table:
    """1 to 12 rows and columns of numbers; it never changes."""

    def __init__(self, rows):
        check_form(rows)
        self.rows = tuple([check_row(row) for row in rows])
        self.high = len(self.rows)
        self.wide = len(self.rows[0])

    @property
    def square(self):
        """Tell whether there are as many rows as columns."""
        return self.high == self.wide

    @classmethod
    def unit(cls, size):
        """Return the square table with 1 in the boxes (i, i) and 0 elsewhere."""
        check_want(size, 1, LIMIT, "size")
        rows = [[ONE if row == column else NOUGHT for column in range(size)] for row in range(size)]
        return cls(rows)

    @classmethod
    def nought(cls, high, wide):
        """Return the table with 0 everywhere."""
        check_want(high, 1, LIMIT, "high")
        check_want(wide, 1, LIMIT, "wide")
        return cls([[NOUGHT] * wide] * high)

    @classmethod
    def read(cls, words):
        """Return the table that the string tells."""
        if not isinstance(words, str):
            raise BadText(-1)
        rows = [read_line(part, line) for line, part in enumerate(words.split("\n"))]
        return cls(rows)

    def words(self):
        """Return the string of the table."""
        return "\n".join([" ".join([written(number) for number in row]) for row in self.rows])

    def entry(self, row, column):
        """Return the number in the box."""
        check_box(self, row, column)
        return self.rows[row][column]

    def turned(self):
        """Return the table with rows and columns exchanged."""
        return Table(turned_rows(self.rows))

    def half_turned(self):
        """Return the table with the rows backwards, each one backwards."""
        return Table([row[::-1] for row in self.rows[::-1]])

    def part(self, rows, columns):
        """Return the part of two lots that are not empty."""
        high = check_sides(rows, self.high)
        wide = check_sides(columns, self.wide)
        return Table([[self.rows[row][column] for column in wide] for row in high])

    def corner(self, row, column):
        """Return the rows from row on in the columns from column on."""
        check_box(self, row, column)
        return Table([numbers[column:] for numbers in self.rows[row:]])

    def without_row(self, at):
        """Return the table without row at."""
        check_row_place(at, self.high)
        if self.high == 1:
            raise TooMany(1)
        return Table(self.rows[:at] + self.rows[at + 1:])

    def without_column(self, at):
        """Return the table without column at."""
        check_column_place(at, self.wide)
        if self.wide == 1:
            raise TooMany(1)
        return Table([row[:at] + row[at + 1:] for row in self.rows])

    def with_row(self, at, row):
        """Return the table with a new row, which gets the number at."""
        check_row_place(at, self.high + 1)
        added = check_row(row)
        if len(added) != self.wide:
            raise OtherSize(len(added), self.wide)
        return Table(self.rows[:at] + (added,) + self.rows[at:])

    def with_column(self, at, column):
        """Return the table with a new column, which gets the number at."""
        check_column_place(at, self.wide + 1)
        added = check_row(column)
        if len(added) != self.high:
            raise OtherSize(len(added), self.high)
        return Table([row[:at] + (number,) + row[at:] for row, number in zip(self.rows, added)])

    def copied_row(self, at):
        """Return the table in which row at stands twice."""
        check_row_place(at, self.high)
        return Table(self.rows[:at + 1] + self.rows[at:])

    def joined_rows(self, at):
        """Return the table with the sum of the rows at and at + 1 in their place."""
        check_row_place(at, self.high - 1)
        joined = tuple([plus(one, other) for one, other in zip(self.rows[at], self.rows[at + 1])])
        return Table(self.rows[:at] + (joined,) + self.rows[at + 2:])

    def times_row(self, at, number):
        """Return the table with row at multiplied by the number."""
        check_row_place(at, self.high)
        check_number(number)
        changed = tuple([times(old, number) for old in self.rows[at]])
        return Table(self.rows[:at] + (changed,) + self.rows[at + 1:])

    def raised(self, row, column, number):
        """Return the table with the number added to one entry."""
        check_box(self, row, column)
        check_number(number)
        old = self.rows[row]
        changed = old[:column] + (plus(old[column], number),) + old[column + 1:]
        return Table(self.rows[:row] + (changed,) + self.rows[row + 1:])

    def has_nought_row(self, at):
        """Tell whether row at is 0 everywhere."""
        check_row_place(at, self.high)
        return all([number == NOUGHT for number in self.rows[at]])

    def __mul__(self, other):
        if not isinstance(other, Table):
            return NotImplemented
        if self.wide != other.high:
            raise OtherSize(self.wide, other.high)
        columns = turned_rows(other.rows)
        return Table([[dot(row, column) for column in columns] for row in self.rows])

    def __invert__(self):
        return self.turned()

    def __eq__(self, other):
        return isinstance(other, Table) and self.rows == other.rows

    def __len__(self):
        return len(self.rows)

    def __getitem__(self, at):
        check_row_place(at, self.high)
        return self.rows[at]

    def __iter__(self):
        return iter(self.rows)


def beside(*tables):
    """Return the tables as one, each right of the one before."""
    if len(tables) == 0:
        raise BadWant("tables")
    for table in tables:
        if table.high != tables[0].high:
            raise OtherSize(tables[0].high, table.high)
    rows = [[] for _ in range(tables[0].high)]
    for table in tables:
        rows = [row + list(added) for row, added in zip(rows, table.rows)]
    return Table(rows)
