import random
import unittest
from fractions import Fraction

from helpers import Case, frac, num, plain_minor, random_table, tables_of_any_sign
from minusless.choosing import chosen, entry_room, spoilt
from minusless.errors import BadBox, BadNumber, BadTable, OtherSize, TooMany
from minusless.mainrule import is_good
from minusless.roadminors import cell_faults, in_cell, road_minors
from minusless.stairs import Stair
from minusless.tables import Table
from stairhelpers import BOXES_OUTSIDE, STAIRS, good_on, plain_road, plain_road_lots, tree_order_of
from test_roadminors import random_pattern

NOUGHT, ONE = (0, 1), (1, 1)


def minors_for(rng, rows):
    """Numbers of any sign that are not 0 at the full boxes."""
    def number(box):
        while True:
            top = rng.randint(-3, 3)
            if top or not box:
                return num(Fraction(top, rng.randint(1, 3)))
    return Table([[number(box) for box in row] for row in rows])


def plain_road_minors(table, rows):
    return Table([[plain_minor(table, *plain_road_lots(rows, row, column)) for column in range(table.wide)]
                  for row in range(table.high)])


class Chosen(Case):
    def test_any_numbers_for_any_pattern(self):
        rng = random.Random(1)
        none = 0
        for _ in range(150):
            rows = random_pattern(rng, rng.randint(1, 4), rng.randint(1, 4))
            none += not Stair.is_stair(rows)
            numbers = minors_for(rng, rows)
            found = chosen([list(row) for row in rows], numbers)
            self.assertEqual(plain_road_minors(found, rows), numbers)
            self.assertEqual(road_minors(found, rows), numbers)
            self.assertEqual(chosen(rows, [list(row) for row in numbers.rows]), found)
        self.assertGreater(none, 30)

    def test_stairs(self):
        rng = random.Random(2)
        for stair in STAIRS:
            numbers = minors_for(rng, stair.rows)
            self.assertEqual(road_minors(chosen(pattern=stair, numbers=numbers), stair), numbers)

    def test_just_one_table_has_these_numbers(self):
        rng = random.Random(3)
        for table in tables_of_any_sign(100, seed=101):
            rows = random_pattern(rng, table.high, table.wide)
            minors = road_minors(table, rows)
            faults = [box for box in tree_order_of(table.high, table.wide)
                      if rows[box[0]][box[1]] and minors.entry(*box) == NOUGHT]
            if faults:
                self.refuses(BadBox(*faults[0]), chosen, rows, minors)
            else:
                self.assertEqual(chosen(rows, minors), table)

    def test_nought_at_a_full_box(self):
        noughts = [[NOUGHT] * 3] * 3
        self.refuses(BadBox(2, 1), chosen, [[1, 1, 1], [1, 1, 1], [1, 1, 0]], noughts)
        self.refuses(BadBox(0, 1), chosen, [[1, 1, 0], [0, 0, 0], [0, 0, 0]], noughts)
        self.refuses(BadBox(1, 0), chosen, [[1, 1], [1, 1]], [[NOUGHT, NOUGHT], [NOUGHT, ONE]])
        self.assertEqual(chosen([[0] * 3] * 3, noughts), Table.nought(3, 3))

    def test_twelve(self):
        rng = random.Random(4)
        stair = Stair.all_full(12, 12)
        numbers = Table([[num(rng.choice((-2, -1, 1, 3))) for _ in range(12)] for _ in range(12)])
        self.assertEqual(road_minors(chosen(stair, numbers), stair), numbers)

    def test_errors_in_order(self):
        numbers = [[ONE, ONE], [ONE, ONE]]
        for wrong in (None, 1, ()):
            self.refuses(BadTable(-1), chosen, wrong, None)
            self.refuses(BadTable(-1), chosen, [[1, 1]], wrong)
        self.refuses(BadTable(1), chosen, [[1, 1], [1, 2]], [[None]])
        self.refuses(TooMany(12), chosen, [[1] * 13], None)
        self.refuses(BadTable(1), chosen, [[1]], [[ONE], [ONE, ONE]])
        self.refuses(TooMany(12), chosen, [[1]], [[ONE]] * 13)
        self.refuses(BadNumber(1), chosen, [[1]], [[ONE, (2, 4)]])
        self.refuses(OtherSize(1, 2), chosen, [[1, 1, 1]], numbers)
        self.refuses(OtherSize(1, 2), chosen, Stair.all_full(2, 1), Table(numbers))
        self.refuses(OtherSize(3, 2), chosen, [[1, 1, 1], [1, 1, 1]], [[NOUGHT] * 2] * 2)
        self.refuses(OtherSize(2, 1), chosen, [[1, 1]], [[NOUGHT]])


class Spoilt(Case):
    def test_no_test_of_a_cell_can_be_left_out(self):
        rng = random.Random(5)
        for stair in STAIRS[::3]:
            table = good_on(rng, stair)
            for row, column in tree_order_of(stair.high, stair.wide):
                wrong = (-1, 2) if stair.has(row, column) else rng.choice(((-1, 3), (2, 1)))
                found = spoilt(table, stair, row, column, wrong)
                self.assertEqual(cell_faults(found, stair), ((row, column),))
                self.assertFalse(in_cell(found, stair))
                kept = [list(line) for line in road_minors(table, stair).rows]
                kept[row][column] = wrong
                self.assertEqual(road_minors(found, stair), Table(kept))

    def test_with_a_number_that_passes(self):
        rng = random.Random(6)
        for stair in STAIRS[::7]:
            table = good_on(rng, stair)
            for row, column in tree_order_of(stair.high, stair.wide):
                number = (7, 3) if stair.has(row, column) else NOUGHT
                found = spoilt(table, stair.rows, row, column, number)
                self.assertTrue(in_cell(found, stair))
                self.assertTrue(is_good(found))
                if stair.has(row, column):
                    self.assertEqual(road_minors(found, stair).entry(row, column), (7, 3))
                else:
                    self.assertEqual(found, table)

    def test_nought_at_a_full_box(self):
        rng = random.Random(7)
        for stair in STAIRS[::5]:
            table = good_on(rng, stair)
            for row, column in stair.full_boxes():
                self.refuses(BadBox(row, column), spoilt, table, stair, row, column, NOUGHT)

    def test_the_first_box_with_nought_is_told(self):
        pattern = [[1, 1], [1, 1]]
        self.refuses(BadBox(1, 1), spoilt, Table.read("1 1\n1 0"), pattern, 0, 0, (5, 1))
        self.refuses(BadBox(0, 0), spoilt, Table.read("1 1\n1 1"), pattern, 0, 1, (5, 1))
        self.assertEqual(spoilt(Table.read("1 1\n1 0"), pattern, 1, 1, ONE).words(), "0 1\n1 1")
        self.refuses(BadBox(1, 0), spoilt, Table.read("1 1\n0 1"), pattern, 0, 1, NOUGHT)

    def test_errors_in_order(self):
        table, full = Table.read("1 2 3\n4 5 6"), Stair.all_full(2, 3)
        self.refuses(BadTable(-1), spoilt, table, None, 9, 9, None)
        self.refuses(OtherSize(2, 1), spoilt, table, [[1]], 9, 9, None)
        self.refuses(OtherSize(3, 1), spoilt, table, [[1], [1]], 9, 9, None)
        for row, column in BOXES_OUTSIDE:
            self.refuses(BadBox(row, column), spoilt, table, full, row, column, None)
        for wrong in (None, 1, (2, 4), [1, 1], (True, 1)):
            self.refuses(BadNumber(-1), spoilt, table, full, 1, 2, wrong)
            self.refuses(BadNumber(-1), spoilt, Table.nought(2, 3), full, 0, 0, wrong)
        found = spoilt(table=table, pattern=full, row=1, column=2, number=(7, 1))
        self.assertEqual(road_minors(found, full).entry(1, 2), (7, 1))


class EntryRoom(Case):
    def test_against_minors(self):
        rng = random.Random(8)
        with_next = 0
        for table in tables_of_any_sign(80, seed=102):
            rows = random_pattern(rng, table.high, table.wide)
            for row, column in tree_order_of(table.high, table.wide):
                boxes = plain_road(rows, row, column)
                lots = plain_road_lots(rows, row, column)
                emptied = table.raised(row, column, num(-frac(table.entry(row, column))))
                factor = plain_minor(table, lots[0][1:], lots[1][1:]) if len(boxes) > 1 else ONE
                found = entry_room(table, rows, row, column)
                self.assertEqual(found, (plain_minor(emptied, *lots), factor))
                self.assertEqual(plain_minor(table, *lots),
                                 num(frac(found[0]) + frac(table.entry(row, column)) * frac(found[1])))
                with_next += len(boxes) > 1
        self.assertGreater(with_next, 60)

    def test_with_and_without_next(self):
        table = Table.read("2 3\n5 7")
        self.assertEqual(entry_room(table, [[1, 1], [1, 1]], 0, 0), ((-15, 1), (7, 1)))
        self.assertEqual(entry_room(table=table, pattern=[[1, 1], [1, 0]], row=0, column=0), (NOUGHT, ONE))
        self.assertEqual(entry_room(table, Stair.all_full(2, 2), 0, 1), (NOUGHT, ONE))

    def test_errors_in_order(self):
        table, full = random_table(random.Random(9), 2, 3), Stair.all_full(2, 3)
        self.refuses(BadTable(0), entry_room, table, [[3]], 9, 9)
        self.refuses(OtherSize(2, 3), entry_room, table, [[1]] * 3, 9, 9)
        self.refuses(OtherSize(3, 2), entry_room, table, Stair.all_full(2, 2), 9, 9)
        for row, column in BOXES_OUTSIDE:
            self.refuses(BadBox(row, column), entry_room, table, full, row, column)


if __name__ == "__main__":
    unittest.main()
