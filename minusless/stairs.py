"""Patterns of full and empty boxes, and stairs."""

from minusless.checks import check_want, is_from, is_pair
from minusless.errors import BadStair, BadTable, BadText, OtherSize
from minusless.numbers import NOUGHT
from minusless.tables import LIMIT, check_box, check_column_place, check_form, check_row_place, turned_rows

SIGNS = ".#"


def check_pattern(rows):
    """Return the rows of a pattern as a tuple of tuples."""
    check_form(rows)
    for at, row in enumerate(rows):
        if not all([is_from(box, 0, 1) for box in row]):
            raise BadTable(at)
    return tuple([tuple(row) for row in rows])


def pattern_of(table):
    """Return the pattern of a table, a tuple of tuples."""
    return tuple([tuple([0 if number == NOUGHT else 1 for number in row]) for row in table.rows])


def stair_fault(rows):
    """Return the first empty box with a full one left of it and one above it, None if there is none."""
    for at, row in enumerate(rows):
        for column, box in enumerate(row):
            if box == 0 and 1 in row[:column] and 1 in [above[column] for above in rows[:at]]:
                return (at, column)
    return None


def read_boxes(words, line):
    """Return the boxes of one line of a stair's string."""
    if words == "" or not all([sign in SIGNS for sign in words]):
        raise BadText(line)
    return [SIGNS.index(sign) for sign in words]


def read_stair(words):
    """Return the Stair that the string tells."""
    if not isinstance(words, str):
        raise BadText(-1)
    return Stair([read_boxes(part, line) for line, part in enumerate(words.split("\n"))])


class Stair:
    """A pattern that is a stair; it never changes."""

    def __init__(self, rows):
        pattern = check_pattern(rows)
        fault = stair_fault(pattern)
        if fault is not None:
            raise BadStair(fault[0], fault[1])
        self.rows = pattern
        self.high = len(pattern)
        self.wide = len(pattern[0])

    @property
    def many(self):
        """Tell the number of full boxes."""
        return len(self.full_boxes())

    @classmethod
    def all_full(cls, high, wide):
        """Return the stair with all boxes full."""
        check_want(high, 1, LIMIT, "high")
        check_want(wide, 1, LIMIT, "wide")
        return cls([[1] * wide] * high)

    @classmethod
    def all_empty(cls, high, wide):
        """Return the stair with all boxes empty."""
        check_want(high, 1, LIMIT, "high")
        check_want(wide, 1, LIMIT, "wide")
        return cls([[0] * wide] * high)

    @classmethod
    def of_core(cls, core):
        """Return the pattern of a core as a stair."""
        return cls(pattern_of(core))

    @staticmethod
    def is_stair(rows):
        """Tell whether a pattern is a stair."""
        return stair_fault(check_pattern(rows)) is None

    def has(self, row, column):
        """Tell whether the box is full."""
        check_box(self, row, column)
        return self.rows[row][column] == 1

    def boxes_with(self, sign):
        """Return the boxes with 1 or with 0 in reading order."""
        boxes = [(row, column) for row in range(self.high) for column in range(self.wide)]
        return tuple([(row, column) for row, column in boxes if self.rows[row][column] == sign])

    def full_boxes(self):
        """Return the full boxes in reading order."""
        return self.boxes_with(1)

    def empty_boxes(self):
        """Return the empty boxes in reading order."""
        return self.boxes_with(0)

    def first(self, row):
        """Return the first full column of the row, the number of columns if it has none."""
        check_row_place(row, self.high)
        boxes = self.rows[row]
        return boxes.index(1) if 1 in boxes else self.wide

    def top(self, column):
        """Return the first full row of the column, the number of rows if it has none."""
        check_column_place(column, self.wide)
        boxes = [row[column] for row in self.rows]
        return boxes.index(1) if 1 in boxes else self.high

    def barred(self):
        """Return the columns that are empty in some row with a full box further left."""
        return tuple([column for column in range(self.wide) if self.bars(column)])

    def bars(self, column):
        """Tell whether some row has the column empty and a full box further left."""
        return any([row[column] == 0 and 1 in row[:column] for row in self.rows])

    def inside(self, other):
        """Tell whether each full box is full in the other stair, too."""
        if self.high != other.high:
            raise OtherSize(self.high, other.high)
        if self.wide != other.wide:
            raise OtherSize(self.wide, other.wide)
        return all([other.rows[row][column] == 1 for row, column in self.full_boxes()])

    def corner(self, row, column):
        """Return the stair of the rows from row on in the columns from column on."""
        check_box(self, row, column)
        return Stair([boxes[column:] for boxes in self.rows[row:]])

    def with_sign(self, row, column, sign):
        """Return the stair with 1 or 0 in the box."""
        check_box(self, row, column)
        boxes = self.rows[row]
        changed = boxes[:column] + (sign,) + boxes[column + 1:]
        return Stair(self.rows[:row] + (changed,) + self.rows[row + 1:])

    def with_box(self, row, column):
        """Return the stair with this box full."""
        return self.with_sign(row, column, 1)

    def without_box(self, row, column):
        """Return the stair with this box empty."""
        return self.with_sign(row, column, 0)

    def words(self):
        """Return the string of the stair."""
        return "\n".join(["".join([SIGNS[box] for box in row]) for row in self.rows])

    def __invert__(self):
        return Stair(turned_rows(self.rows))

    def __eq__(self, other):
        return isinstance(other, Stair) and self.rows == other.rows

    def __len__(self):
        return len(self.full_boxes())

    def __contains__(self, box):
        return isinstance(box, tuple) and is_pair(box) and box in self.full_boxes()

    def __iter__(self):
        return iter(self.rows)
