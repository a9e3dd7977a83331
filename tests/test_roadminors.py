import random
import unittest

from helpers import Case, all_patterns, frac, num, plain_minor, plain_stair, random_table, sizes, table_of
from helpers import tables_of_any_sign
from minusless.errors import BadBox, BadStair, BadTable, NotGood, OtherSize, TooMany
from minusless.mainrule import is_good, stair_of, table_on
from minusless.making import made
from minusless.meanings import is_all_above_plainly
from minusless.roadminors import by_roads, cell_faults, in_cell, road_minor, road_minors, road_product
from minusless.stairs import Stair, pattern_of
from minusless.tables import Table
from minusless.unmaking import unmade
from test_boxcompanies import cores_on_stairs
from test_roads import plain_road, tree_order

FULL = [[1, 1], [1, 1]]
STAIRS = [Stair(rows) for high, wide in sizes(3) for rows in all_patterns(high, wide) if plain_stair(rows)]


def random_pattern(rng, high, wide):
    return tuple(tuple(rng.randint(0, 1) for _ in range(wide)) for _ in range(high))


def plain_road_minor(table, rows, row, column):
    boxes = plain_road(rows, row, column)
    return plain_minor(table, [high for high, _ in boxes], [wide for _, wide in boxes])


class RoadMinors(Case):
    def test_against_minors(self):
        rng = random.Random(1)
        for table in tables_of_any_sign(150, seed=81):
            rows = random_pattern(rng, table.high, table.wide)
            wanted = [[plain_road_minor(table, rows, row, column) for column in range(table.wide)]
                      for row in range(table.high)]
            self.assertEqual(road_minors(table, rows), Table(wanted))
            for row in range(table.high):
                for column in range(table.wide):
                    self.assertEqual(road_minor(table, [list(line) for line in rows], row, column), wanted[row][column])
            self.check_by_roads(table, rows, wanted)

    def check_by_roads(self, table, rows, minors):
        found, fault = [], None
        for row in range(table.high):
            found.append([])
            for column in range(table.wide):
                boxes = plain_road(rows, row, column)
                share = frac(minors[boxes[1][0]][boxes[1][1]]) if len(boxes) > 1 else 1
                if share == 0:
                    fault = fault or (row, column)
                else:
                    found[-1].append(num(frac(minors[row][column]) / share))
        if fault is None:
            self.assertEqual(by_roads(table, rows), Table(found))
        else:
            self.refuses(NotGood(*fault), by_roads, table, rows)

    def test_by_roads_not_good(self):
        self.refuses(NotGood(0, 0), by_roads, Table.read("1 1\n1 0"), FULL)
        self.refuses(NotGood(0, 1), by_roads, Table.read("1 1 1\n1 1 0"), [[1, 1, 1], [1, 1, 1]])
        self.refuses(NotGood(0, 0), by_roads, Table.read("1 1\n1 1\n1 0"), [[0, 0], [0, 0], [1, 1]])
        # Both (0, 1) and (1, 0) are at fault; the one that is read first is told.
        self.refuses(NotGood(0, 1), by_roads, Table.read("1 1 1\n1 1 0\n1 0 1"), [[1, 1, 1]] * 3)

    def test_products(self):
        for core in cores_on_stairs(3, 3):
            table = made(core)
            stair = Stair.of_core(core)
            self.assertEqual(by_roads(table, stair), core)
            self.assertEqual(by_roads(table, pattern_of(core)), core)
            for row, column in tree_order(core.rows):
                self.assertEqual(road_product(core, row, column), road_minor(table, stair, row, column))

    def test_road_product_of_any_core(self):
        for core in tables_of_any_sign(100, seed=82):
            rows = pattern_of(core)
            for row, column in tree_order(rows):
                wanted = frac((1, 1))
                for high, wide in plain_road(rows, row, column):
                    wanted *= frac(core.entry(high, wide))
                self.assertEqual(road_product(core, row, column), num(wanted))

    def test_all_boxes_full(self):
        rng = random.Random(2)
        above = 0
        tables = [random_table(rng, 1 + seed % 3, 1 + seed % 4, low=1, noughts=0) for seed in range(100)]
        tables += [table_of([[(row + 1) ** column for column in range(3)] for row in range(high)]) for high in (1, 2, 3)]
        for table in tables:
            stair = Stair.all_full(table.high, table.wide)
            for row, column in tree_order(table.rows):
                many = min(table.high - row, table.wide - column)
                rows, columns = range(row, row + many), range(column, column + many)
                self.assertEqual(road_minor(table, stair, row, column), plain_minor(table, rows, columns))
            found = all(top > 0 for line in road_minors(table, stair) for top, _ in line)
            self.assertEqual(found, is_all_above_plainly(table))
            above += found
        self.assertTrue(10 < above < 90)

    def test_twelve(self):
        table = random_table(random.Random(3), 12, 12, noughts=0.1)
        stair = Stair.all_full(12, 12)
        core = unmade(table)
        if 0 not in [box for row in pattern_of(core) for box in row]:
            self.assertEqual(by_roads(table, stair), core)
        self.assertEqual(road_product(core, 0, 0), road_minor(table, pattern_of(core), 0, 0))


class Cells(Case):
    def test_faults_against_minors(self):
        rng = random.Random(4)
        for table in tables_of_any_sign(120, 3, seed=83):
            stairs = [stair for stair in STAIRS if (stair.high, stair.wide) == (table.high, table.wide)]
            for stair in rng.sample(stairs, min(len(stairs), 6)):
                wanted = []
                for row, column in tree_order(stair.rows):
                    top = plain_road_minor(table, stair.rows, row, column)[0]
                    if (top <= 0) if stair.rows[row][column] else (top != 0):
                        wanted.append((row, column))
                self.assertEqual(cell_faults(table, stair), tuple(wanted))
                self.assertEqual(cell_faults(table, [list(row) for row in stair.rows]), tuple(wanted))
                self.assertIs(in_cell(table, stair), not wanted)
                self.assertIs(in_cell(table, stair.rows), is_good(table) and stair_of(table) == stair)

    def test_each_cell(self):
        rng = random.Random(5)
        for stair in STAIRS:
            table = table_on(stair, [num(rng.randint(1, 4)) for _ in range(stair.many)])
            self.assertIs(in_cell(table, stair), True)
            self.assertEqual(cell_faults(table, stair), ())
            for other in STAIRS:
                if (other.high, other.wide) == (stair.high, stair.wide) and rng.random() < 0.2:
                    self.assertIs(in_cell(table, other), other == stair)

    def test_faults_in_the_order_of_the_tree(self):
        self.assertEqual(cell_faults(table=Table.nought(2, 2), stair=FULL), ((1, 1), (1, 0), (0, 1), (0, 0)))
        self.assertEqual(cell_faults(Table.read("1 -1\n1 1"), FULL), ((0, 1),))

    def test_rows_that_are_no_stair(self):
        for call in (cell_faults, in_cell):
            self.refuses(BadStair(1, 1), call, Table.unit(3), [[0, 1], [1, 0]])
            self.refuses(BadTable(-1), call, Table.unit(3), [])
            self.refuses(BadTable(1), call, Table.unit(3), [[0, 1], [1, 2]])
            self.refuses(TooMany(12), call, Table.unit(3), [[1] * 13])


class Refused(Case):
    def test_errors_in_order(self):
        table = Table.read("1 2 3\n4 5 6")
        calls = [lambda rows, call=call: call(table, rows) for call in (road_minors, by_roads, cell_faults, in_cell)]
        calls.append(lambda rows: road_minor(table, rows, -1, True))
        for call in calls:
            for wrong in (None, "11", ()):
                self.refuses(BadTable(-1), call, wrong)
            self.refuses(BadTable(1), call, [[1, 1], [1]])
            self.refuses(BadTable(0), call, [[5], [1], [1]])
            for rows in ([[1, 1, 1]], Stair.all_full(1, 2)):
                self.refuses(OtherSize(2, 1), call, rows)
            for rows in ([[1, 1], [1, 1]], Stair.all_full(2, 2)):
                self.refuses(OtherSize(3, 2), call, rows)

    def test_boxes_outside(self):
        table = Table.read("1 2 3\n4 5 6")
        stair = Stair.all_full(2, 3)
        for row, column in ((-1, 0), (0, -1), (2, 0), (0, 3), (True, 0), (0, False), (None, 0), (0, "1")):
            self.refuses(BadBox(row, column), road_minor, table, stair, row, column)
            self.refuses(BadBox(row, column), road_product, table, row, column)
        self.assertEqual(road_minor(table=table, pattern=stair, row=1, column=2), (6, 1))
        self.assertEqual(road_product(core=table, row=0, column=1), (12, 1))
        self.assertEqual(road_minors(table=table, pattern=stair).entry(1, 1), (5, 1))
        self.assertEqual(by_roads(table=table, pattern=stair).entry(1, 1), (5, 1))


if __name__ == "__main__":
    unittest.main()
