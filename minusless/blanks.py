"""Part-empty tables: tables of which some entries are unknown."""

from minusless.checks import is_from, is_series
from minusless.errors import BadBlank, BadNumber, BadWant
from minusless.minors import check_lots, determinant_of
from minusless.numbers import NOUGHT, check_number, is_number
from minusless.tables import Table, check_box, check_form, turned_rows
from minusless.unmaking import unmade


def check_members(rows):
    """Return the rows of numbers and blanks, of the form of a table's, as a tuple of tuples."""
    check_form(rows)
    for row in rows:
        for place, member in enumerate(row):
            if member is not None and not is_number(member):
                raise BadNumber(place)
    return tuple([tuple(row) for row in rows])


def is_known(member):
    """Tell whether the member is no blank."""
    return member is not None


def blank_fault(rows):
    """Return the first blank with a known box left of it or above it, None if there is none."""
    for at, row in enumerate(rows):
        for column, member in enumerate(row):
            before = list(row[:column]) + [above[column] for above in rows[:at]]
            if member is None and any([is_known(other) for other in before]):
                return (at, column)
    return None


def boxes_known(rows, known):
    """Return the boxes that are known, or those that are blank, in reading order."""
    return tuple([(at, column) for at, row in enumerate(rows) for column, member in enumerate(row)
                  if is_known(member) == known])


def check_shape(shape, high, wide):
    """Return the numbers of blanks of the rows of a part-empty table."""
    if not is_series(shape) or len(shape) != high or not all([is_from(many, 0, wide) for many in shape]):
        raise BadWant("shape")
    if not all([shape[at] <= shape[at - 1] for at in range(1, high)]) or shape[-1] == wide:
        raise BadWant("shape")
    return shape


class PartTable:
    """A table of which some entries are unknown; it never changes."""

    def __init__(self, rows):
        members = check_members(rows)
        fault = blank_fault(members)
        if fault is not None:
            raise BadBlank(fault[0], fault[1])
        if members[-1][-1] is None:
            raise BadBlank(len(members) - 1, len(members[0]) - 1)
        self.rows = members
        self.high = len(members)
        self.wide = len(members[0])

    @classmethod
    def of_table(cls, table, shape):
        """Return the table with as many numbers at the beginning of each row made blank as the shape tells."""
        many_blank = check_shape(shape, table.high, table.wide)
        return cls([(None,) * many + row[many:] for many, row in zip(many_blank, table.rows)])

    def is_blank(self, row, column):
        """Tell whether the entry is unknown."""
        check_box(self, row, column)
        return self.rows[row][column] is None

    def blanks(self):
        """Return the blanks in reading order."""
        return boxes_known(self.rows, False)

    def known_boxes(self):
        """Return the boxes that are no blanks in reading order."""
        return boxes_known(self.rows, True)

    def shape(self):
        """Return the number of blanks of each row."""
        return tuple([len([member for member in row if member is None]) for row in self.rows])

    def turned_part(self):
        """Return the part-empty table with rows and columns exchanged."""
        return PartTable(turned_rows(self.rows))

    def agrees(self, table):
        """Tell whether the table is a filling."""
        if table.high != self.high or table.wide != self.wide:
            return False
        return all([table.rows[row][column] == self.rows[row][column] for row, column in self.known_boxes()])

    def with_known(self, row, column, number):
        """Return the part-empty table with the number in this blank."""
        check_box(self, row, column)
        check_number(number)
        # Nothing else may be blank right of the box or below it.
        blank = self.blanks()
        if (row, column) not in blank or (row, column + 1) in blank or (row + 1, column) in blank:
            raise BadBlank(row, column)
        changed = self.rows[row][:column] + (number,) + self.rows[row][column + 1:]
        return PartTable(self.rows[:row] + (changed,) + self.rows[row + 1:])

    def __eq__(self, other):
        return isinstance(other, PartTable) and self.rows == other.rows

    def __iter__(self):
        return iter(self.rows)


def part_of_half(rows):
    """Return the part-empty table of the rows half-turned."""
    members = check_members(rows)
    return PartTable([row[::-1] for row in members[::-1]])


def filled_with(rows, numbers):
    """Return the Table with the numbers in the blanks of the rows, in reading order."""
    found = [list(row) for row in rows]
    for (row, column), number in zip(boxes_known(rows, False), numbers):
        found[row][column] = number
    return Table(found)


def known_core(part):
    """Return the rows of the numbers of the core in the known boxes, None in the blanks."""
    # What stands in the blanks makes no difference to these numbers.
    core = unmade(filled_with(part.rows, [NOUGHT] * len(part.blanks())))
    return tuple([tuple([number if is_known(member) else None for number, member in zip(numbers, row)])
                  for numbers, row in zip(core.rows, part.rows)])


def known_minor(part, rows, columns):
    """Return the minor of two lots between which there is no blank."""
    row_lot, column_lot = check_lots(rows, columns, part.high, part.wide)
    for row in row_lot:
        for column in column_lot:
            if part.rows[row][column] is None:
                raise BadBlank(row, column)
    return determinant_of([[part.rows[row][column] for column in column_lot] for row in row_lot])
