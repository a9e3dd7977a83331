"""Changes of sign in rows of numbers, and what a table does to them."""

from minusless.checks import is_int, is_series
from minusless.errors import BadNumber, BadWant, OtherSize
from minusless.numbers import check_row, sign_of
from minusless.tables import dot


def full_signs(numbers):
    """Return the signs of the numbers that are not 0, in order."""
    return [sign_of(number) for number in numbers if sign_of(number) != 0]


def count_changes(signs):
    """Return how often a sign differs from the one before, -1 if there are none."""
    return len([at for at in range(1, len(signs)) if signs[at] != signs[at - 1]]) if len(signs) > 0 else -1


def changes(row):
    """Return how often the sign changes from one number that is not 0 to the next, -1 if all are 0."""
    return count_changes(full_signs(check_row(row)))


def sign_at(row, place):
    """Return the sign of what stands at the place of the numbers that are not 0, 0 if there are none."""
    signs = full_signs(check_row(row))
    return signs[place] if len(signs) > 0 else 0


def begins(row):
    """Return the sign of the first number that is not 0, 0 if there is none."""
    return sign_at(row, 0)


def ends(row):
    """Return the sign of the last number that is not 0, 0 if there is none."""
    return sign_at(row, -1)


def alternated(signs):
    """Return the signs with every second one turned."""
    return [sign if place % 2 == 0 else -sign for place, sign in enumerate(signs)]


def most_changes(row):
    """Return the greatest number of changes of a choice of signs for the row, -1 if the row is empty."""
    signs = alternated([sign_of(number) for number in check_row(row)])
    # What changes in the turned row does not change in the row, whatever stands at the noughts.
    fixed = count_changes([sign for sign in signs if sign != 0])
    return len(signs) - 1 - max(fixed, 0)


def filled_signs(row, begin):
    """Return the least choice of signs with the most changes and with begin ahead, None if there is none."""
    signs = [sign_of(number) for number in check_row(row)]
    if not is_int(begin) or begin not in (1, -1):
        raise BadWant("begin")
    best = best_ahead(signs)
    most = most_changes(row)
    if len(signs) == 0 or best[0].get(begin, -1) != most:
        return None
    found = (begin,)
    for behind in best[1:]:
        left = most - count_changes(found)
        # Of the signs that still lead to the most changes the lesser one is taken.
        leading = [sign for sign, ahead in behind.items() if ahead + (1 if sign != found[-1] else 0) == left]
        found = found + (min(leading),)
    return found


def best_ahead(signs):
    """Return for each place a dict: each sign that may stand there leads to the most changes from there on."""
    best = []
    for sign in signs[::-1]:
        allowed = (-1, 1) if sign == 0 else (sign,)
        if len(best) == 0:
            best = [{begin: 0 for begin in allowed}]
        else:
            best = [{begin: best_behind(begin, best[0]) for begin in allowed}] + best
    return best


def best_behind(begin, behind):
    """Return the most changes of a row that begins so and goes on as one of those behind."""
    return max([most + (1 if sign != begin else 0) for sign, most in behind.items()])


def taken(table, row):
    """Return the row of the sums of the products of each row of the table with the row."""
    numbers = check_row(row)
    if len(numbers) != table.wide:
        raise OtherSize(table.wide, len(numbers))
    return tuple([dot(line, numbers) for line in table.rows])


def taken_left(table, row):
    """Return the row of the sums of the products of the row with each column of the table."""
    numbers = check_row(row)
    if len(numbers) != table.high:
        raise OtherSize(table.high, len(numbers))
    return taken(table.turned(), numbers)


def rule_holds(table, row):
    """Tell whether the sign rule of the table holds at the row."""
    found = taken(table, row)
    old = changes(row)
    new = changes(found)
    if new == old and new != -1:
        return begins(found) == begins(row)
    return new <= old


class SignRule:
    """The sign rules of one table."""

    def __init__(self, table):
        self.table = table

    def __call__(self, row):
        return rule_holds(self.table, row)

    def strict(self, row):
        """Tell whether the strict rule holds at the row."""
        found = taken(self.table, row)
        old = changes(row)
        if old == -1:
            raise BadNumber(-1)
        most = most_changes(found)
        return most < old or (most == old and filled_signs(found, -begins(row)) is None)

    def verdicts(self, rows):
        """Tell for each row whether the sign rule holds at it."""
        if not is_series(rows):
            raise BadNumber(-1)
        return tuple([rule_holds(self.table, row) for row in rows])

    def turned_rule(self):
        """Return the SignRule of the turned table."""
        return SignRule(self.table.turned())
