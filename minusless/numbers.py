"""Numbers: fractions of any size as tuples (top, under) in lowest terms."""

from math import gcd

from minusless.checks import is_int, is_series
from minusless.errors import BadNumber, BadText

NOUGHT = (0, 1)
ONE = (1, 1)
DIGITS = "0123456789"
MOST_DIGITS = 60


def lowest(top, under):
    """Return top / under in lowest terms, for integers of which under is not 0."""
    shared = gcd(top, under)
    if under < 0:
        shared = -shared
    return (top // shared, under // shared)


def number_of(top, under):
    """Return top / under in lowest terms."""
    if not is_int(top) or not is_int(under) or under == 0:
        raise BadNumber(-1)
    return lowest(top, under)


def whole(top):
    """Return the number of an integer."""
    if not is_int(top):
        raise BadNumber(-1)
    return (top, 1)


def is_number(value):
    """Tell whether the value is a number."""
    if not isinstance(value, tuple) or len(value) != 2:
        return False
    top, under = value
    return is_int(top) and is_int(under) and under >= 1 and gcd(top, under) == 1


def check_number(number):
    """Return the number itself."""
    if not is_number(number):
        raise BadNumber(-1)
    return number


def check_row(row):
    """Return the row of numbers as a tuple."""
    if not is_series(row):
        raise BadNumber(-1)
    for place, number in enumerate(row):
        if not is_number(number):
            raise BadNumber(place)
    return tuple(row)


def plus(one, other):
    """Return the sum of two numbers."""
    top, under = check_number(one)
    more, share = check_number(other)
    return lowest(top * share + more * under, under * share)


def less(one, other):
    """Return the difference of two numbers."""
    top, under = check_number(one)
    more, share = check_number(other)
    return lowest(top * share - more * under, under * share)


def times(one, other):
    """Return the product of two numbers."""
    top, under = check_number(one)
    more, share = check_number(other)
    return lowest(top * more, under * share)


def over(one, other):
    """Return one divided by other."""
    top, under = check_number(one)
    more, share = check_number(other)
    if more == 0:
        raise BadNumber(-1)
    return lowest(top * share, under * more)


def opposite(number):
    """Return the number with the other sign."""
    return less(NOUGHT, number)


def sign_of(number):
    """Return 1, 0 or -1 as the number is above 0, nought or below 0."""
    top = check_number(number)[0]
    if top == 0:
        return 0
    return 1 if top > 0 else -1


def is_above(one, other):
    """Tell whether one is greater than other."""
    return sign_of(less(one, other)) == 1


def written(number):
    """Return the string of a number."""
    top, under = check_number(number)
    return str(top) if under == 1 else f"{top}/{under}"


def is_plain_integer(word):
    """Tell whether the word is the figures of an integer without sign and leading 0, 60 at most."""
    if word == "" or len(word) > MOST_DIGITS:
        return False
    if not all([figure in DIGITS for figure in word]):
        return False
    return word[0] != "0" or word == "0"


def read_number(words):
    """Return the number that the string tells."""
    if not isinstance(words, str):
        raise BadText(-1)
    minus = words.startswith("-")
    parts = words.removeprefix("-").split("/")
    if len(parts) > 2 or not all([is_plain_integer(part) for part in parts]):
        raise BadText(-1)
    top = int(parts[0])
    under = int(parts[1]) if len(parts) == 2 else 1
    if minus and top == 0:
        raise BadText(-1)
    # An integer is written without a lower one, so "3/1" is no string of a number.
    if len(parts) == 2 and (under < 2 or gcd(top, under) > 1):
        raise BadText(-1)
    return (-top, under) if minus else (top, under)
