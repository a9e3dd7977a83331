"""What the nought minors of a table tell: its cell, and the ranks of its corners."""

from minusless.checks import check_alike
from minusless.ladders import ladder_size
from minusless.mainrule import stair_of
from minusless.meanings import nought_minors
from minusless.minors import rank_of
from minusless.numbers import NOUGHT
from minusless.roadminors import minor_at
from minusless.roads import tree_boxes
from minusless.stairs import Stair


def read_noughts(table):
    """Return the pattern that the nought road minors tell as a Stair."""
    rows = [[0] * table.wide for _ in range(table.high)]
    for row, column in tree_boxes(table.rows):
        if minor_at(table, rows, row, column) != NOUGHT:
            rows[row][column] = 1
    return Stair(rows)


def same_noughts(one, other):
    """Tell whether two tables have the same nought minors."""
    check_alike(one.rows, other.rows)
    return nought_minors(one) == nought_minors(other)


def rank_by_core(table):
    """Return the rank of a good table, as the length of a ladder of its stair."""
    return ladder_size(stair_of(table))


def corner_ranks(table):
    """Return the ranks of the corners of any table, each at its box."""
    ranks = [[rank_of(table.corner(row, column)) for column in range(table.wide)] for row in range(table.high)]
    return tuple([tuple(line) for line in ranks])
