import random
import unittest
from fractions import Fraction

from helpers import Case, all_patterns, good_tables, num, plain_good, plain_stair, random_table, sizes, table_of
from helpers import tables_of_any_sign
from minusless.errors import BadNumber, NotGood, OtherSize, TooMany
from minusless.mainrule import core_fault, is_good, numbers_of, same_cell, stair_of, table_on
from minusless.making import made
from minusless.stairs import Stair, read_stair
from minusless.tables import Table
from minusless.unmaking import unmade

ONE = (1, 1)
STAIRS = [Stair(rows) for high, wide in sizes(3) for rows in all_patterns(high, wide) if plain_stair(rows)]
FROM_NOUGHT = [random_table(random.Random(seed), 1 + seed % 3, 1 + seed % 4, low=0) for seed in range(150)]
# Small entries that hit both good tables and those that are hardly not good.
TABLES = good_tables(80) + tables_of_any_sign(80, seed=51) + FROM_NOUGHT


class MainRule(Case):
    def test_both_ways_against_minors(self):
        good = 0
        for table in TABLES:
            wanted = plain_good(table)
            good += wanted
            self.assertIs(is_good(table), wanted)
            self.assertIs(is_good(table, plainly=True), wanted)
            self.assertIs(is_good(table=table, plainly=False), wanted)
            self.assertEqual(core_fault(unmade(table)) is None, wanted)
        self.assertTrue(90 < good < len(TABLES) - 90)

    def test_cores(self):
        for high, wide in sizes(3):
            for rows in all_patterns(high, wide):
                core = table_of([[box * (row + 2 * column + 1) for column, box in enumerate(boxes)]
                                 for row, boxes in enumerate(rows)])
                self.assertEqual(core_fault(core) is None, plain_stair(rows))
                self.assertIs(is_good(made(core)), plain_stair(rows))

    def test_core_fault(self):
        self.assertIsNone(core_fault(Table.read("0 1\n1 1")))
        self.assertEqual(core_fault(Table.read("0 1\n1 0")), (1, 1))
        # A number below 0 comes first, wherever it stands.
        self.assertEqual(core_fault(Table.read("0 1 1\n1 0 1\n1 1 -1")), (2, 2))
        self.assertEqual(core_fault(Table.read("1 -1\n-1 0")), (0, 1))
        self.assertEqual(core_fault(core=Table.read("1 1 1\n1 0 1\n1 0 0")), (1, 1))

    def test_six_and_seven(self):
        self.assertIs(is_good(Table.unit(6), plainly=True), True)
        for table in (Table.nought(7, 1), Table.nought(1, 7)):
            self.refuses(TooMany(6), is_good, table, plainly=True)
            self.assertIs(is_good(table), True)
        self.assertIs(is_good(Table.unit(12)), True)
        self.assertIs(is_good(Table.unit(12).raised(11, 0, ONE)), False)

    def test_plainly_is_passed_by_name_only(self):
        with self.assertRaises(TypeError):
            is_good(Table.unit(2), True)


class Cells(Case):
    def test_free_numbers(self):
        rng = random.Random(1)
        for stair in STAIRS:
            numbers = [num(Fraction(rng.randint(1, 5), rng.randint(1, 3))) for _ in range(stair.many)]
            table = table_on(stair, numbers)
            self.assertTrue(plain_good(table))
            self.assertEqual(stair_of(table), stair)
            self.assertEqual(numbers_of(table), tuple(numbers))
            self.assertEqual(table_on(stair, tuple(numbers)), table)
            for place in range(len(numbers)):
                other = numbers[:place] + [(7, 1)] + numbers[place + 1:]
                self.assertNotEqual(table_on(stair, other), table)

    def test_all_good_tables(self):
        for table in TABLES:
            core = unmade(table)
            if plain_good(table):
                stair = stair_of(table)
                self.assertEqual(stair, Stair.of_core(core))
                self.assertEqual(table_on(stair, numbers_of(table)), table)
                self.assertEqual(stair_of(table.turned()), ~stair)
                for row in range(table.high):
                    for column in range(table.wide):
                        self.assertEqual(stair_of(table.corner(row, column)), stair.corner(row, column))
            else:
                fault = core_fault(core)
                for action in (stair_of, numbers_of):
                    self.refuses(NotGood(*fault), action, table)

    def test_not_good_holds_a_box_of_the_core(self):
        self.refuses(NotGood(1, 1), stair_of, Table.read("0 1\n1 0"))
        self.refuses(NotGood(0, 0), numbers_of, Table.read("1 2\n1 1"))

    def test_table_on_refuses(self):
        stair = read_stair(".#\n##")
        for wrong in (None, 1, "123", {0: ONE}):
            self.refuses(BadNumber(-1), table_on, stair, wrong)
        self.refuses(BadNumber(2), table_on, stair, [(-1, 1), (0, 1), (2, 4)])
        self.refuses(BadNumber(1), table_on, stair, [ONE, (0, 1), (-1, 1)])
        self.refuses(BadNumber(0), table_on, stair, [(-1, 2)])
        self.refuses(OtherSize(2, 3), table_on, stair, [ONE, ONE])
        self.refuses(OtherSize(4, 3), table_on, stair, [ONE] * 4)
        self.refuses(OtherSize(0, 3), table_on, stair, ())
        self.assertEqual(table_on(stair=Stair.all_empty(2, 3), numbers=[]), Table.nought(2, 3))
        self.refuses(OtherSize(1, 0), table_on, Stair.all_empty(2, 3), [ONE])

    def test_same_cell(self):
        good = [table for table in TABLES if plain_good(table)][:60]
        for one in good:
            for other in good:
                same = (one.high, one.wide) == (other.high, other.wide) and stair_of(one) == stair_of(other)
                self.assertIs(same_cell(one, other), same)
        self.assertIs(same_cell(one=Table.read("1 2"), other=Table.read("3 4")), True)
        self.assertIs(same_cell(Table.read("1 2"), Table.read("1\n2")), False)

    def test_same_cell_refuses(self):
        good, bad, worse = Table.read("1 2"), Table.read("0 1\n1 0"), Table.read("-1")
        self.refuses(NotGood(1, 1), same_cell, bad, worse)
        self.refuses(NotGood(0, 0), same_cell, worse, bad)
        self.refuses(NotGood(0, 0), same_cell, good, worse)
        self.refuses(NotGood(1, 1), same_cell, bad, good)


if __name__ == "__main__":
    unittest.main()
