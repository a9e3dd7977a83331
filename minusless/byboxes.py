"""Stairs counted by the number of their full boxes.

A count by full boxes is a list: the number at place k tells how many have k full boxes.
"""

from math import comb, factorial

from minusless.checks import check_want
from minusless.counting import check_sizes
from minusless.tables import LIMIT


def filled_up(counts, length):
    """Return the counts with noughts behind them, so many that the list has this length."""
    return counts + [0] * (length - len(counts))


def added(one, other):
    """Return the sum of two counts by full boxes."""
    length = max(len(one), len(other))
    return [left + right for left, right in zip(filled_up(one, length), filled_up(other, length))]


def times_count(counts, factor, more):
    """Return the counts, each factor times as great, for more full boxes."""
    return [0] * more + [factor * count for count in counts]


def with_last_row(above, wide):
    """Return the count of covering stairs of so many columns, for those of the rows above the last one.

    The last row of a covering stair is empty up to some column and full from there on. The rows above cover the
    columns where it is empty, and any of the others.
    """
    total = []
    for full in range(wide + 1):
        for many in range(full + 1):
            total = added(total, times_count(above[wide - full + many], comb(full, many), full))
    return total


def covering_lists(high, wide):
    """Return the counts of covering stairs of high rows and 0, 1, .., wide columns."""
    found = [[1]] + [[] for _ in range(wide)]
    for _ in range(high):
        found = [with_last_row(found, size) for size in range(wide + 1)]
    return found


def covering_by_boxes(high, wide):
    """Return the numbers of covering stairs with 0, 1, .., high * wide full boxes."""
    check_sizes(high, wide)
    return tuple(filled_up(covering_lists(high, wide)[wide], high * wide + 1))


def stairs_by_boxes(high, wide):
    """Return the numbers of stairs with 0, 1, .., high * wide full boxes."""
    check_sizes(high, wide)
    total = [0] * (high * wide + 1)
    for many, counts in enumerate(covering_lists(high, wide)):
        total = added(total, times_count(counts, comb(wide, many), 0))
    return tuple(total)


def even_odd(high, wide):
    """Return how many stairs have an even number of full boxes, and how many an odd one."""
    counts = stairs_by_boxes(high, wide)
    return (sum(counts[::2]), sum(counts[1::2]))


def turnable(size):
    """Return the number of square stairs with all boxes (i, i) full."""
    check_want(size, 0, LIMIT, "size")
    many = factorial(size)
    return many * many


def turnable_by_boxes(size):
    """Return the numbers of these stairs with 0, 1, .., size * (size - 1) full boxes besides."""
    check_want(size, 0, LIMIT, "size")
    found = [1]
    for length in range(1, size + 1):
        # Below the diagonal and above it the new line has 0 to length - 1 full boxes each.
        for _ in range(2):
            found = times_run(found, length)
    return tuple(found)


def times_run(counts, length):
    """Return the counts with 0, 1, .., length - 1 full boxes more."""
    total = []
    for more in range(length):
        total = added(total, times_count(counts, 1, more))
    return total
