"""What many modules ask of an argument."""

from minusless.errors import BadWant, OtherSize


def is_int(value):
    """Tell whether the value is an integer; True and False are none."""
    return isinstance(value, int) and not isinstance(value, bool)


def is_series(value):
    """Tell whether the value is a list or a tuple."""
    return isinstance(value, (list, tuple))


def is_from(value, low, high):
    """Tell whether the value is an integer from low to high."""
    return is_int(value) and low <= value <= high


def is_count(value):
    """Tell whether the value is an integer from 0 on."""
    return is_int(value) and value >= 0


def is_pair(value):
    """Tell whether the value is a list or tuple of two integers."""
    return is_series(value) and len(value) == 2 and is_int(value[0]) and is_int(value[1])


def check_want(value, low, high, word):
    """Return the value if it is an integer from low to high; the argument is called word."""
    if not is_from(value, low, high):
        raise BadWant(word)
    return value


def check_count(value, word):
    """Return the value if it is an integer from 0 on; the argument is called word."""
    if not is_count(value):
        raise BadWant(word)
    return value


def check_alike(rows, others):
    """Refuse the rows of two tables or patterns that have unlike sizes."""
    if len(rows) != len(others):
        raise OtherSize(len(rows), len(others))
    if len(rows[0]) != len(others[0]):
        raise OtherSize(len(rows[0]), len(others[0]))
