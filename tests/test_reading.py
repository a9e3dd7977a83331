import random
import unittest

from helpers import Case, plain_minor, tables_of_any_sign
from minusless.errors import BadStair, NotGood, OtherSize, TooMany
from minusless.mainrule import core_fault
from minusless.meanings import nought_minors
from minusless.minors import rank_of
from minusless.reading import corner_ranks, rank_by_core, read_noughts, same_noughts
from minusless.stairs import Stair, stair_fault
from minusless.tables import Table
from minusless.unmaking import unmade
from stairhelpers import STAIRS, good_on, good_tables_on, plain_road_lots, random_stairs, tree_order_of
from test_asking import TABLES


def plain_read(table):
    """The pattern found, in the words of the document."""
    rows = [[0] * table.wide for _ in range(table.high)]
    for row, column in tree_order_of(table.high, table.wide):
        if plain_minor(table, *plain_road_lots(rows, row, column)) != (0, 1):
            rows[row][column] = 1
    return rows


class Reading(Case):
    def test_good_tables(self):
        rng = random.Random(1)
        for stair in STAIRS + random_stairs(60):
            self.assertEqual(read_noughts(good_on(rng, stair)), stair)

    def test_other_tables(self):
        faults = 0
        for table in TABLES:
            rows = plain_read(table)
            fault = stair_fault(rows)
            if fault is None:
                self.assertEqual(read_noughts(table), Stair(rows))
            else:
                self.refuses(BadStair(*fault), read_noughts, table)
                faults += 1
        self.assertGreater(faults, 40)
        self.refuses(BadStair(1, 1), read_noughts, Table.read("0 1\n1 0"))
        # A number below 0 is not nought, so its box is full.
        self.assertEqual(read_noughts(table=Table.read("-1 0\n0 -2")), Stair([[1, 0], [0, 1]]))

    def test_same_noughts(self):
        tables = good_tables_on(STAIRS[::9], seed=2) + tables_of_any_sign(40, 3, seed=151)
        same = 0
        for one in tables:
            for other in tables:
                if (one.high, one.wide) == (other.high, other.wide):
                    wanted = nought_minors(one) == nought_minors(other)
                    self.assertIs(same_noughts(one, other), wanted)
                    same += wanted and one != other
        self.assertGreater(same, 10)
        rng = random.Random(3)
        for stair in STAIRS[::5]:
            self.assertIs(same_noughts(one=good_on(rng, stair), other=good_on(rng, stair)), True)

    def test_same_noughts_refuses(self):
        self.refuses(OtherSize(7, 2), same_noughts, Table.nought(7, 7), Table.nought(2, 3))
        self.refuses(OtherSize(7, 3), same_noughts, Table.nought(2, 7), Table.nought(2, 3))
        for high, wide in ((7, 1), (1, 7)):
            self.refuses(TooMany(6), same_noughts, Table.nought(high, wide), Table.nought(high, wide))
        self.assertIs(same_noughts(Table.unit(6), Table.unit(6).times_row(0, (2, 1))), True)
        self.assertIs(same_noughts(Table.nought(6, 1), Table.nought(6, 1).raised(5, 0, (1, 1))), False)

    def test_rank_by_core(self):
        rng = random.Random(4)
        for stair in STAIRS[::2] + random_stairs(40):
            table = good_on(rng, stair)
            self.assertEqual(rank_by_core(table), rank_of(table))
        self.assertEqual(rank_by_core(table=Table.unit(12)), 12)
        for table in TABLES[::2]:
            fault = core_fault(unmade(table))
            if fault is not None:
                self.refuses(NotGood(*fault), rank_by_core, table)

    def test_corner_ranks(self):
        for table in TABLES[::3] + tables_of_any_sign(40, 5, seed=152):
            found = corner_ranks(table)
            self.assertEqual(found, tuple(tuple(rank_of(table.corner(row, column)) for column in range(table.wide))
                                          for row in range(table.high)))
        self.assertEqual(corner_ranks(table=Table.read("0 1\n1 0")), ((2, 1), (1, 0)))


if __name__ == "__main__":
    unittest.main()
