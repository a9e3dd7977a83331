"""How many stairs there are."""

from math import comb

from minusless.checks import check_want
from minusless.tables import LIMIT

MOST_CHOSEN = 60


def choose(size, many):
    """Return how many lots of many things there are among size things."""
    check_want(size, 0, MOST_CHOSEN, "size")
    check_want(many, 0, MOST_CHOSEN, "many")
    return comb(size, many)


def check_sizes(high, wide):
    """Refuse numbers of rows and columns that are not integers from 0 to 12."""
    check_want(high, 0, LIMIT, "high")
    check_want(wide, 0, LIMIT, "wide")


def covering_counts(high, wide):
    """Return the numbers of covering stairs of high rows and 0, 1, .., wide columns."""
    counts = [1] + [0] * wide
    for _ in range(high):
        counts = [sum([comb(size + 1, many) * counts[many] for many in range(size + 1)]) for size in range(wide + 1)]
    return counts


def stair_counts(high, wide):
    """Return the numbers of stairs of high rows and 0, 1, .., wide columns."""
    counts = covering_counts(high, wide)
    return [sum([comb(size, many) * counts[many] for many in range(size + 1)]) for size in range(wide + 1)]


def covering(high, wide):
    """Return the number of stairs with a full box in every column."""
    check_sizes(high, wide)
    return covering_counts(high, wide)[wide]


def count_stairs(high, wide):
    """Return the number of stairs."""
    check_sizes(high, wide)
    return stair_counts(high, wide)[wide]


def crowded(high, wide):
    """Return the number of stairs with a full box in every row and every column."""
    check_sizes(high, wide)
    total = 0
    # Each covering stair is a crowded one of fewer rows with empty rows put in.
    for many in range(high + 1):
        sign = 1 if (high - many) % 2 == 0 else -1
        total = total + sign * comb(high, many) * covering_counts(many, wide)[wide]
    return total
