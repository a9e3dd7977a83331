"""Stairs and good tables for the tests, and the tree of tests in the words of the document."""

import random
from fractions import Fraction

from helpers import all_patterns, num, plain_minor, plain_stair, sizes
from minusless.mainrule import table_on
from minusless.stairs import Stair

BOXES_OUTSIDE = ((-1, 0), (0, -1), (99, 0), (0, 99), (True, 0), (0, False), (None, 0), (0, "1"))


def stairs_sized(high, wide):
    """All stairs of one size, found by trying each pattern."""
    return [Stair(rows) for rows in all_patterns(high, wide) if plain_stair(rows)]


STAIRS = [stair for high, wide in sizes(3) for stair in stairs_sized(high, wide)]
STAIRS_OF = {}
for _stair in STAIRS:
    STAIRS_OF.setdefault((_stair.high, _stair.wide), []).append(_stair)


def random_stair(rng, high, wide, full=0.5):
    """A stair, made by filling boxes of a row only where no row below bars the column."""
    rows = []
    barred = set()
    for _ in range(high):
        row = [int(column not in barred and rng.random() < full) for column in range(wide)]
        rows.insert(0, row)
        barred |= {column for column in range(wide) if not row[column] and any(row[:column])}
    return Stair(rows)


def random_stairs(count, most=5, seed=1):
    rng = random.Random(seed)
    return [random_stair(rng, rng.randint(1, most), rng.randint(1, most), rng.choice((0.3, 0.6, 0.9)))
            for _ in range(count)]


def numbers_above(rng, many):
    return [num(Fraction(rng.randint(1, 5), rng.randint(1, 3))) for _ in range(many)]


def good_on(rng, stair):
    """A good table of the stair's cell."""
    return table_on(stair, numbers_above(rng, stair.many))


def good_tables_on(stairs, seed=1):
    rng = random.Random(seed)
    return [good_on(rng, stair) for stair in stairs]


def tree_order_of(high, wide):
    return [(row, column) for row in range(high - 1, -1, -1) for column in range(wide - 1, -1, -1)]


def plain_road(rows, row, column):
    """A road, in the words of the document."""
    found = [(row, column)]
    now = column
    for below in range(row + 1, len(rows)):
        if rows[below][now]:
            right = [place for place in range(now + 1, len(rows[0])) if rows[below][place]]
            if right:
                now = right[0]
                found.append((below, now))
    return tuple(found)


def plain_road_lots(rows, row, column):
    boxes = plain_road(rows, row, column)
    return tuple(high for high, _ in boxes), tuple(wide for _, wide in boxes)


class PlainTree:
    """The walk through the tree with an answer for each question, in the words of the document."""

    def __init__(self, high, wide, answer):
        self.questions, self.answers, self.states = [], [], []
        self.end, self.paper = "good", ((), ())
        self.found = [[0] * wide for _ in range(high)]
        for row, column in tree_order_of(high, wide):
            lots = plain_road_lots(self.found, row, column)
            self.states.append(tuple(map(tuple, self.found)))
            self.questions.append(lots)
            self.answers.append(answer(len(self.answers), *lots))
            top = self.answers[-1][0]
            if top < 0:
                self.end, self.paper = "below", lots
                return
            if top > 0:
                self.found[row][column] = 1
                faults = [(low, left) for low in range(row + 1, high) for left in range(column)
                          if not self.found[low][column] and self.found[low][left]]
                if faults:
                    low, left = max(faults)
                    rows, columns = plain_road_lots(self.found, low, column)
                    self.end, self.paper = "column", ((row,) + rows, (left,) + columns)
                    return


def plain_tree(table):
    return PlainTree(table.high, table.wide, lambda _, rows, columns: plain_minor(table, rows, columns))
