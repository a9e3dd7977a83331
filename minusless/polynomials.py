"""Polynomials: rows of coefficients, and those that tell the roots of a table."""

from minusless.checks import is_series
from minusless.errors import BadNumber, TooMany
from minusless.lots import lots
from minusless.minors import check_square, minor
from minusless.numbers import NOUGHT, ONE, check_number, check_row, opposite, plus, sign_of, times, written
from minusless.signs import changes

MOST_COEFFICIENTS = 13
MOST_ROWS = 6


def check_poly(poly):
    """Return the polynomial as a tuple."""
    if not is_series(poly) or len(poly) == 0:
        raise BadNumber(-1)
    found = check_row(poly)
    if found[0] == NOUGHT:
        raise BadNumber(0)
    if len(found) > MOST_COEFFICIENTS:
        raise TooMany(MOST_COEFFICIENTS)
    return found


def sums_up_to(poly, number):
    """Return for each beginning of the polynomial its value; the last one is that of the whole."""
    sums = ()
    total = NOUGHT
    for part in poly:
        total = plus(times(total, number), part)
        sums = sums + (total,)
    return sums


def value_at(poly, number):
    """Return the value of the polynomial at the number."""
    found = check_poly(poly)
    return sums_up_to(found, check_number(number))[-1]


def poly_times(one, other):
    """Return the product of two polynomials."""
    left = check_poly(one)
    right = check_poly(other)
    size = len(left) + len(right) - 1
    if size > MOST_COEFFICIENTS:
        raise TooMany(MOST_COEFFICIENTS)
    found = [NOUGHT] * size
    for at, number in enumerate(left):
        for place, part in enumerate(right):
            found[at + place] = plus(found[at + place], times(number, part))
    return tuple(found)


def shifted_by(poly, number):
    """Return the polynomial with x + number in the place of x."""
    rest = poly
    found = ()
    # Divided by x less the number, a polynomial leaves its value there and the sums ahead of it.
    while len(rest) > 0:
        sums = sums_up_to(rest, number)
        found = (sums[-1],) + found
        rest = sums[:-1]
    return found


def shifted(poly, number):
    """Return the polynomial with x + number in the place of x."""
    found = check_poly(poly)
    return shifted_by(found, check_number(number))


def poly_changes(poly):
    """Return the changes of the coefficients."""
    return changes(check_poly(poly))


def low_noughts(poly):
    """Return how many coefficients at the end are 0."""
    found = check_poly(poly)
    many = 0
    # The first coefficient is not 0.
    while found[len(found) - 1 - many] == NOUGHT:
        many += 1
    return many


def coefficient(table, start, many):
    """Return the sum of the minors of many rows from start on in the same columns, with its sign."""
    size = table.high - start
    total = NOUGHT
    for lot in lots(size, many):
        places = [start + place for place in lot]
        total = plus(total, minor(table, places, places))
    return opposite(total) if many % 2 == 1 else total


def part_poly(table, start):
    """Return the polynomial of the part of the rows and columns from start on."""
    return tuple([coefficient(table, start, many) for many in range(table.high - start + 1)])


def check_small_square(table):
    """Refuse a table that is not square or has more than 6 rows."""
    check_square(table)
    if table.high > MOST_ROWS:
        raise TooMany(MOST_ROWS)


def root_poly(table):
    """Return the polynomial whose roots are those of the table."""
    check_small_square(table)
    return part_poly(table, 0)


def trail(table):
    """Return the polynomials of the parts of the last 0, 1, .., n rows and columns."""
    check_small_square(table)
    return tuple([part_poly(table, start) for start in reversed(range(table.high + 1))])


def term_words(number, exponent):
    """Return the string of a term without its sign."""
    size = written(opposite(number) if sign_of(number) < 0 else number)
    if exponent == 0:
        return size
    letter = "x" if exponent == 1 else f"x^{exponent}"
    return letter if size == written(ONE) else f"{size} {letter}"


def poly_words(poly):
    """Return the string of the polynomial."""
    found = check_poly(poly)
    words = ""
    for place, number in enumerate(found):
        if number == NOUGHT:
            continue
        below = sign_of(number) < 0
        if words == "":
            words = "-" if below else ""
        else:
            words = words + (" - " if below else " + ")
        words = words + term_words(number, len(found) - 1 - place)
    return words
