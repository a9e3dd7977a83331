import random
import unittest

from helpers import Case, all_patterns, frac, num, plain_minor, sizes, tables_of_any_sign
from minusless.crossroads import by_cross_roads, cross_minors, cross_road, first_unlike, telling_minor
from minusless.errors import BadBox, BadTable, BadWant, NotGood, OtherSize, TooMany
from minusless.making import made
from minusless.minors import minor
from minusless.roadminors import road_minors
from minusless.roads import road
from minusless.stairs import Stair
from minusless.tables import Table
from stairhelpers import BOXES_OUTSIDE, STAIRS, STAIRS_OF, good_on, plain_road, tree_order_of
from test_boxcompanies import cores_on_stairs
from test_roadminors import random_pattern

PATTERNS = [rows for high, wide in sizes(3) for rows in all_patterns(high, wide)][::3]


def plain_cross_road(rows, row, column):
    """The road of (column, row) in the turned pattern, with the numbers of each box exchanged."""
    turned = [[rows[at][place] for at in range(len(rows))] for place in range(len(rows[0]))]
    return tuple((wide, high) for high, wide in plain_road(turned, column, row))


def plain_cross_minor(table, rows, row, column):
    boxes = plain_cross_road(rows, row, column)
    return plain_minor(table, [high for high, _ in boxes], [wide for _, wide in boxes])


class CrossRoads(Case):
    def test_against_roads_of_the_turned_pattern(self):
        for rows in PATTERNS:
            for row, column in tree_order_of(len(rows), len(rows[0])):
                wanted = plain_cross_road(rows, row, column)
                self.assertEqual(cross_road([list(line) for line in rows], row, column), wanted)
                turned = road(list(zip(*rows)), column, row)
                self.assertEqual(tuple((wide, high) for high, wide in turned), wanted)

    def test_example(self):
        rows = [[1, 0, 1], [1, 1, 1]]
        self.assertEqual(cross_road(rows, 0, 0), ((0, 0), (1, 2)))
        self.assertEqual(cross_road(pattern=rows, row=0, column=1), ((0, 1), (1, 2)))
        # Road and cross road of a box can differ: here the road has no second box.
        rows = [[1, 1], [0, 1]]
        self.assertEqual((road(rows, 0, 0), cross_road(rows, 0, 0)), (((0, 0),), ((0, 0), (1, 1))))
        self.assertEqual(cross_road(Stair(rows), 0, 0), ((0, 0), (1, 1)))

    def test_minors(self):
        rng = random.Random(1)
        for table in tables_of_any_sign(120, seed=111):
            rows = random_pattern(rng, table.high, table.wide)
            wanted = [[plain_cross_minor(table, rows, row, column) for column in range(table.wide)]
                      for row in range(table.high)]
            self.assertEqual(cross_minors(table, rows), Table(wanted))
            turned = road_minors(table.turned(), list(zip(*rows))).turned()
            self.assertEqual(cross_minors(table, [list(line) for line in rows]), turned)
            self.check_by_cross_roads(table, rows, wanted)

    def check_by_cross_roads(self, table, rows, minors):
        found, fault = [], None
        for row in range(table.high):
            found.append([])
            for column in range(table.wide):
                boxes = plain_cross_road(rows, row, column)
                share = frac(minors[boxes[1][0]][boxes[1][1]]) if len(boxes) > 1 else 1
                if share == 0:
                    fault = fault or (row, column)
                else:
                    found[-1].append(num(frac(minors[row][column]) / share))
        if fault is None:
            self.assertEqual(by_cross_roads(table, rows), Table(found))
        else:
            self.refuses(NotGood(*fault), by_cross_roads, table, rows)

    def test_the_core(self):
        for core in cores_on_stairs(3, 3):
            table = made(core)
            stair = Stair.of_core(core)
            self.assertEqual(by_cross_roads(table, stair), core)
            minors = cross_minors(table=table, pattern=stair)
            for row, column in tree_order_of(core.high, core.wide):
                wanted = frac((1, 1))
                for high, wide in cross_road(stair, row, column):
                    wanted *= frac(core.entry(high, wide))
                self.assertEqual(frac(minors.entry(row, column)), wanted)

    def test_cells_cut_out_by_cross_minors(self):
        rng = random.Random(2)
        for stairs in STAIRS_OF.values():
            for stair in rng.sample(stairs, min(len(stairs), 12)):
                table = good_on(rng, stair)
                for other in rng.sample(stairs, min(len(stairs), 12)):
                    minors = cross_minors(table, other)
                    passed = all(minors.entry(*box)[0] > 0 if other.has(*box) else minors.entry(*box)[0] == 0
                                 for box in tree_order_of(stair.high, stair.wide))
                    self.assertEqual(passed, other == stair)

    def test_the_box_that_is_told(self):
        full = [[1, 1, 1]] * 3
        # Both (0, 1) and (1, 0) are at fault; the one that is read first is told.
        self.refuses(NotGood(0, 1), by_cross_roads, Table.read("1 1 1\n1 1 0\n1 0 1"), full)
        self.refuses(NotGood(0, 0), by_cross_roads, Table.read("1 1\n1 0"), [[1, 1], [1, 1]])
        self.refuses(NotGood(1, 0), by_cross_roads, Table.read("1 1\n1 1\n1 0"), [[1, 1]] * 3)
        self.assertEqual(by_cross_roads(table=Table.read("1 1\n1 2"), pattern=[[1, 1], [1, 1]]).words(), "1/2 1\n1 2")

    def test_errors_in_order(self):
        table = Table.read("1 2 3\n4 5 6")
        for call in (cross_minors, by_cross_roads):
            self.refuses(BadTable(-1), call, table, None)
            self.refuses(BadTable(0), call, table, [[2]])
            self.refuses(TooMany(12), call, table, [[1] * 13])
            self.refuses(OtherSize(2, 1), call, table, [[1]])
            self.refuses(OtherSize(3, 1), call, table, Stair.all_full(2, 1))
        self.refuses(BadTable(1), cross_road, [[1], [2]], 9, 9)
        for row, column in BOXES_OUTSIDE + ((2, 0), (0, 3)):
            self.refuses(BadBox(row, column), cross_road, [[1, 0, 1], [1, 1, 1]], row, column)
            self.refuses(BadBox(row, column), cross_road, Stair.all_full(2, 3), row, column)


class ToldApart(Case):
    def test_first_unlike(self):
        rng = random.Random(3)
        for high, wide in sizes(3):
            patterns = list(all_patterns(high, wide))
            for _ in range(30):
                one, other = rng.choice(patterns), rng.choice(patterns)
                unlike = [box for box in tree_order_of(high, wide) if one[box[0]][box[1]] != other[box[0]][box[1]]]
                self.assertEqual(first_unlike(one, [list(row) for row in other]), unlike[0] if unlike else None)
                self.assertIsNone(first_unlike(one, one))
        self.assertEqual(first_unlike(one=Stair.all_full(2, 3), other=[[0, 1, 1], [1, 0, 1]]), (1, 1))
        self.assertIsNone(first_unlike([[0, 1]], Stair([[0, 1]])))

    def test_telling_minor(self):
        rng = random.Random(4)
        for stairs in STAIRS_OF.values():
            for one in rng.sample(stairs, min(len(stairs), 10)):
                for other in rng.sample(stairs, min(len(stairs), 10)):
                    if one == other:
                        self.refuses(BadWant("other"), telling_minor, one, other)
                        continue
                    box = first_unlike(one, other)
                    boxes = plain_road(one.rows, *box)
                    self.assertEqual(boxes, plain_road(other.rows, *box))
                    lots = telling_minor(one=one, other=other)
                    self.assertEqual(lots, (tuple(row for row, _ in boxes), tuple(column for _, column in boxes)))
                    self.assertEqual(telling_minor(other, one), lots)
                    self.assertEqual(telling_minor([list(row) for row in one.rows], other.rows), lots)
                    for stair in (one, other):
                        top = minor(good_on(rng, stair), *lots)[0]
                        self.assertTrue(top > 0 if stair.has(*box) else top == 0)

    def test_errors_in_order(self):
        for call in (first_unlike, telling_minor):
            self.refuses(OtherSize(2, 3), call, Stair.all_full(2, 4), Stair.all_full(3, 5))
            self.refuses(OtherSize(4, 5), call, Stair.all_full(1, 4), Stair.all_full(1, 5))
        self.refuses(BadTable(-1), first_unlike, None, [[2]])
        self.refuses(BadTable(0), first_unlike, [[1]], [[2]])
        self.refuses(BadTable(1), first_unlike, [[1, 1], [1]], None)
        self.refuses(TooMany(12), first_unlike, [[1]], [[1]] * 13)
        self.assertEqual(len(STAIRS), sum(map(len, STAIRS_OF.values())))


if __name__ == "__main__":
    unittest.main()
