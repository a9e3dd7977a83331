"""The tree of tests: one minor asked for each box, until the verdict stands."""

from minusless.checks import check_want, is_from, is_series
from minusless.errors import BadWant, Ended, NoStep
from minusless.minors import minor
from minusless.numbers import check_number, sign_of, whole
from minusless.roads import road_lots, tree_boxes
from minusless.stairs import Stair
from minusless.tables import LIMIT


def with_sign_at(rows, box, sign):
    """Return the rows of a pattern with 1 or 0 in the box."""
    row, column = box
    changed = rows[row][:column] + (sign,) + rows[row][column + 1:]
    return rows[:row] + (changed,) + rows[row + 1:]


def barring_row(rows, row, column):
    """Return the greatest row below with the column empty and a full box left of it, None if there is none."""
    for below in reversed(range(row + 1, len(rows))):
        if rows[below][column] == 0 and 1 in rows[below][:column]:
            return below
    return None


def column_paper(rows, box, barring):
    """Return the lots of the minor that the row barring shows to be below 0, since the box is full."""
    row, column = box
    nearest = max([place for place in range(column) if rows[barring][place] == 1])
    lower_rows, lower_columns = road_lots(rows, barring, column)
    return ((row,) + lower_rows, (nearest,) + lower_columns)


class Asker:
    """A walk through the tree of tests, which sees nothing of the table but the answers."""

    def __init__(self, high, wide):
        self.high = check_want(high, 1, LIMIT, "high")
        self.wide = check_want(wide, 1, LIMIT, "wide")
        self.found = ((0,) * wide,) * high
        self.keep_answers(())
        self.close(None, ((), ()))

    def keep_answers(self, answers):
        """Take these as the numbers answered so far."""
        self.answers = answers
        self.asked = len(answers)

    def close(self, end, paper):
        """Take this as the end, None if a question is open, with the lots of its paper."""
        self.end = end
        self.paper_rows, self.paper_columns = paper

    def __call__(self, number):
        check_number(number)
        row, column = self.box()
        asked_lots = self.question()
        self.keep_answers(self.answers + (number,))
        sign = sign_of(number)
        barring = None
        if sign > 0:
            self.found = with_sign_at(self.found, (row, column), 1)
            barring = barring_row(self.found, row, column)
        if sign < 0:
            self.close("below", asked_lots)
        elif barring is not None:
            self.close("column", column_paper(self.found, (row, column), barring))
        elif self.asked == self.high * self.wide:
            self.close("good", ((), ()))

    def box(self):
        """Return the box that the open question is about."""
        if self.end is not None:
            raise Ended()
        return tree_boxes(self.found)[self.asked]

    def question(self):
        """Return the lots of the minor that is asked now."""
        row, column = self.box()
        return road_lots(self.found, row, column)

    def stair(self):
        """Return the pattern found as a Stair, once the tree has ended good."""
        if self.end != "good":
            raise Ended()
        return Stair(self.found)

    def back(self):
        """Take the last answer back."""
        if self.asked == 0:
            raise NoStep()
        self.keep_answers(self.answers[:-1])
        self.close(None, ((), ()))
        self.found = with_sign_at(self.found, self.box(), 0)

    def __bool__(self):
        return self.end is None

    def __len__(self):
        return len(self.answers)


def asked_through(table):
    """Return the Asker whose questions the minors of the table have answered."""
    asker = Asker(table.high, table.wide)
    while asker.end is None:
        rows, columns = asker.question()
        asker(minor(table, rows, columns))
    return asker


def tree_signs(stair):
    """Return 1 for each full box and 0 for each empty one, in the tree's order."""
    return tuple([stair.rows[row][column] for row, column in tree_boxes(stair.rows)])


def roads_to(high, wide, signs):
    """Return the Asker of this size to which the signs have been answered."""
    asker = Asker(high, wide)
    if not is_series(signs) or not all([is_from(sign, -1, 1) for sign in signs]):
        raise BadWant("signs")
    for sign in signs:
        if asker.end is not None:
            raise BadWant("signs")
        asker(whole(sign))
    return asker
