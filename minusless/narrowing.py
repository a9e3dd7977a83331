"""Good square tables made narrow without a change of their roots."""

from minusless.checks import is_from, is_int, is_series
from minusless.errors import BadDeed
from minusless.mainrule import good_core
from minusless.minors import check_square
from minusless.numbers import NOUGHT, is_number, less, over, plus, times
from minusless.tables import Table, turned_rows

LENGTHS = {"row": 3, "column": 3, "drop": 2}


def word_of_deed(deed):
    """Return the first member of a deed that begins with a string, else an empty string."""
    if is_series(deed) and len(deed) > 0 and isinstance(deed[0], str):
        return deed[0]
    return ""


def has_form(deed):
    """Tell whether the deed has one of the three forms."""
    word = word_of_deed(deed)
    if word not in LENGTHS or len(deed) != LENGTHS[word]:
        return False
    return is_int(deed[1]) and (word == "drop" or is_number(deed[2]))


def check_deeds(deeds):
    """Refuse what is no list or tuple of deeds."""
    if not is_series(deeds):
        raise BadDeed("")


def moved_row(rows, at, amount):
    """Return the rows behind the deed "row" at this row."""
    changed = tuple([less(number, times(amount, above)) for number, above in zip(rows[at], rows[at - 1])])
    left = rows[:at] + [changed] + rows[at + 1:]
    return [row[:at - 1] + (plus(row[at - 1], times(amount, row[at])),) + row[at:] for row in left]


def moved_column(rows, at, amount):
    """Return the rows behind the deed "column" at this column."""
    return turned_rows(moved_row(turned_rows(rows), at, amount))


def without_both(rows, at):
    """Return the rows without this row and this column."""
    return [row[:at] + row[at + 1:] for row in rows[:at] + rows[at + 1:]]


def may_drop(rows, at):
    """Tell whether there are more rows and the row or the column is 0 everywhere."""
    if len(rows) == 1 or not is_from(at, 0, len(rows) - 1):
        return False
    column = [row[at] for row in rows]
    return all([number == NOUGHT for number in rows[at]]) or all([number == NOUGHT for number in column])


def can_be_done(rows, deed):
    """Tell whether a deed of one of the three forms can be done on the rows."""
    if deed[0] == "drop":
        return may_drop(rows, deed[1])
    return is_from(deed[1], 1, len(rows) - 1)


def behind(rows, deed):
    """Return the rows behind a deed that can be done."""
    if deed[0] == "row":
        return moved_row(rows, deed[1], deed[2])
    if deed[0] == "column":
        return moved_column(rows, deed[1], deed[2])
    return without_both(rows, deed[1])


def next_deed(line, at, word):
    """Return the deed that clears the number at this place of a line, None if it is 0."""
    if line[at] == NOUGHT:
        return None
    if line[at - 1] == NOUGHT:
        return ("drop", at - 1)
    return (word, at, over(line[at], line[at - 1]))


def line_cleared(rows, deeds, place, word):
    """Return the rows and the deeds with column place cleared for the word "row", or row place for "column"."""
    left = rows
    done_deeds = deeds
    at = len(rows) - 1
    # Behind a drop the number that was looked at stands just one place ahead.
    while at >= place + 2:
        line = [row[place] for row in left] if word == "row" else left[place]
        deed = next_deed(line, at, word)
        if deed is not None:
            left = behind(left, deed)
            done_deeds = done_deeds + (deed,)
        at = at - 1
    return (left, done_deeds)


def narrowed(table):
    """Return the narrow table with the same roots but for some roots 0, and the deeds that lead to it."""
    check_square(table)
    good_core(table)
    rows = list(table.rows)
    deeds = ()
    place = 0
    while len(rows) >= place + 3:
        rows, deeds = line_cleared(rows, deeds, place, "row")
        rows, deeds = line_cleared(rows, deeds, place, "column")
        place += 1
    return (Table(rows), deeds)


def replayed(table, deeds):
    """Return the table behind the deeds."""
    check_square(table)
    check_deeds(deeds)
    rows = list(table.rows)
    for deed in deeds:
        if not has_form(deed) or not can_be_done(rows, deed):
            raise BadDeed(word_of_deed(deed))
        rows = behind(rows, deed)
    return Table(rows)


def dropped(deeds):
    """Return how many of the deeds are drops."""
    check_deeds(deeds)
    for deed in deeds:
        if not has_form(deed):
            raise BadDeed(word_of_deed(deed))
    return len([deed for deed in deeds if deed[0] == "drop"])
