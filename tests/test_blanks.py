import random
import unittest

from helpers import WRONG_INTEGERS, Case, lot_pairs_of, plain_minor, random_table, sizes
from minusless.blanks import PartTable, known_core, known_minor, part_of_half
from minusless.errors import BadBlank, BadBox, BadLot, BadNumber, BadTable, BadWant, OtherSize, TooMany
from minusless.tables import Table
from minusless.unmaking import unmade
from parthelpers import (blanks_of, fill_with, numbers_from, parts_of_any, parts_of_good, plain_core, rows_with_blanks,
                         shapes)
from stairhelpers import BOXES_OUTSIDE

NOUGHT, ONE = (0, 1), (1, 1)
PARTS = parts_of_any(150, seed=91) + [part for part, _ in parts_of_good(60, seed=92)]
RNG = random.Random(93)


class Rows(Case):
    def test_all_shapes(self):
        for high, wide in sizes(3):
            table = random_table(RNG, high, wide)
            for shape in shapes(high, wide):
                rows = rows_with_blanks(table, shape)
                part = PartTable(rows)
                self.assertEqual(part.rows, tuple(tuple(row) for row in rows))
                self.assertIs(type(part.rows), tuple)
                self.assertTrue(all(type(row) is tuple for row in part.rows))
                self.assertEqual((part.high, part.wide, part.shape()), (high, wide, shape))
                self.assertEqual(PartTable.of_table(table, list(shape)), part)
                self.assertEqual(PartTable.of_table(table=table, shape=shape), part)
                self.assertEqual(part.blanks(), tuple(blanks_of(part)))
                boxes = [(row, column) for row in range(high) for column in range(wide)]
                self.assertEqual(part.known_boxes(), tuple(box for box in boxes if box not in blanks_of(part)))
                for row, column in boxes:
                    self.assertIs(part.is_blank(row, column), rows[row][column] is None)
                self.assertEqual(list(part), list(part.rows))
                if rows[0][0] is None:
                    rows[0][0] = ONE
                    self.assertIsNone(part.rows[0][0])
        self.assertEqual(PartTable(rows=((None, ONE),)).shape(), (1,))

    def test_refused_forms(self):
        for wrong in (None, 1, "", "ab", (), [], {}):
            self.refuses(BadTable(-1), PartTable, wrong)
        for wrong in (None, 1, "", [], (), {0: ONE}, (ONE,), [None] * 3):
            self.refuses(BadTable(1), PartTable, [[None, ONE], wrong])
        self.refuses(BadTable(0), PartTable, [[], [ONE]])
        self.refuses(BadTable(2), PartTable, [[5], [ONE], [ONE, ONE]])
        self.refuses(TooMany(12), PartTable, [[ONE]] * 13)
        self.refuses(TooMany(12), PartTable, [[None] * 13])
        self.refuses(BadTable(12), PartTable, [[ONE]] * 12 + [[]])
        self.assertEqual(PartTable([[None] * 11 + [ONE]] * 12).shape(), (11,) * 12)

    def test_refused_members(self):
        for wrong in (1, "1", (1,), (2, 4), [1, 1], (1, 0), (True, 1), False, 0, "None"):
            self.refuses(BadNumber(1), PartTable, [[None, ONE], [ONE, wrong], [5, 5]])
            self.refuses(BadNumber(0), PartTable, [[wrong, 5]])
        # In the first row that has one, ahead of every fault of the blanks.
        self.refuses(BadNumber(2), PartTable, [[ONE, None, 5], [5, 5, 5]])
        self.refuses(BadNumber(0), PartTable, [[None], [5]])

    def test_refused_blanks(self):
        for rows, box in (([[ONE, None]], (0, 1)), ([[ONE], [None]], (1, 0)), ([[None, ONE], [ONE, None]], (1, 1)),
                          ([[None, ONE], [None, None]], (1, 1)), ([[ONE, ONE], [None, ONE]], (1, 0)),
                          ([[None, ONE, None], [None, None, ONE]], (0, 2)),
                          ([[None, None, ONE], [None, None, None]], (1, 2)), ([[None, ONE], [ONE, ONE], [None, ONE]], (2, 0))):
            self.refuses(BadBlank(*box), PartTable, rows)
        for high, wide in sizes(3) + [(12, 12), (12, 1)]:
            self.refuses(BadBlank(high - 1, wide - 1), PartTable, [[None] * wide] * high)

    def test_wrong_shapes(self):
        table = Table.read("1 2\n3 4\n5 6")
        for wrong in (None, 1, "110", {0: 1}, (), (1, 1), (1, 1, 0, 0), (0, 1, 0), (1, 1, 2), (2, 2, 2), (3, 1, 0),
                      (1, 0, -1), (True, 0, 0), (1.0, 0, 0), ("1", 0, 0), (1, None, 0), (2, 2, 3)):
            self.refuses(BadWant("shape"), PartTable.of_table, table, wrong)
        self.assertEqual(PartTable.of_table(table, (2, 2, 1)).shape(), (2, 2, 1))

    def test_equality(self):
        part = PartTable([[None, ONE]])
        self.assertEqual(part, PartTable(((None, ONE),)))
        for other in (PartTable([[ONE, ONE]]), PartTable([[None], [ONE]]), Table([[ONE, ONE]]), None, 1,
                      ((None, ONE),)):
            self.assertNotEqual(part, other)
        self.assertNotEqual(PartTable([[ONE]]), Table([[ONE]]))
        self.assertNotEqual(Table([[ONE]]), PartTable([[ONE]]))


class Methods(Case):
    def test_is_blank_refuses(self):
        part = PartTable([[None, ONE]])
        for row, column in BOXES_OUTSIDE + ((1, 0), (0, 2)):
            self.refuses(BadBox(row, column), part.is_blank, row, column)
            self.refuses(BadBox(row, column), part.with_known, row, column, None)

    def test_turned(self):
        for part in PARTS:
            turned = part.turned_part()
            self.assertIsInstance(turned, PartTable)
            self.assertEqual(turned.rows, tuple(zip(*part.rows)))
            numbers = numbers_from(RNG, len(blanks_of(part)))
            self.assertTrue(turned.agrees(fill_with(part, numbers).turned()))

    def test_agrees(self):
        for part in PARTS:
            table = fill_with(part, numbers_from(RNG, len(blanks_of(part))))
            self.assertIs(part.agrees(table), True)
            for row in range(table.high):
                for column in range(table.wide):
                    self.assertIs(part.agrees(table=table.raised(row, column, ONE)), part.rows[row][column] is None)
            for other in (table.with_row(0, table.rows[0]) if table.high < 12 else table.without_row(0),
                          table.with_column(0, [row[0] for row in table.rows])):
                self.assertIs(part.agrees(other), False)
        self.assertIs(PartTable([[None, ONE]]).agrees(Table.read("1\n1")), False)
        self.assertIs(PartTable([[ONE, ONE]]).agrees(Table.read("1\n1")), False)
        self.assertIs(PartTable([[ONE], [ONE]]).agrees(Table.read("1")), False)
        self.assertIs(PartTable([[ONE]]).agrees(Table.read("1 1")), False)

    def test_with_known(self):
        for part in PARTS:
            blank = blanks_of(part)
            for row in range(part.high):
                for column in range(part.wide):
                    last = (row, column) in blank and (row, column + 1) not in blank and (row + 1, column) not in blank
                    if not last:
                        self.refuses(BadBlank(row, column), part.with_known, row, column, ONE)
                        self.refuses(BadNumber(-1), part.with_known, row, column, (2, 4))
                        continue
                    found = part.with_known(row, column, (-2, 3))
                    self.assertEqual(part.with_known(row=row, column=column, number=(-2, 3)), found)
                    self.assertIsInstance(found, PartTable)
                    self.assertEqual([at for at in blank if at not in blanks_of(found)], [(row, column)])
                    self.assertEqual(found.rows[row][column], (-2, 3))
                    for wrong in (None, 1, (1, 0), [1, 1], "1"):
                        self.refuses(BadNumber(-1), part.with_known, row, column, wrong)

    def test_blanks_become_known_one_by_one(self):
        for part, table in parts_of_good(40, seed=94):
            now = part
            for row, column in blanks_of(part)[::-1]:
                now = now.with_known(row, column, table.rows[row][column])
            self.assertEqual(now.rows, table.rows)


class Halves(Case):
    def test_half_turned(self):
        for part in PARTS:
            rows = [list(row[::-1]) for row in part.rows[::-1]]
            self.assertEqual(part_of_half(rows), part)
            self.assertEqual(part_of_half(rows=tuple(map(tuple, rows))), part)
            numbers = numbers_from(RNG, len(blanks_of(part)))
            table = fill_with(part, numbers)
            self.assertTrue(part_of_half(rows).agrees(table))

    def test_errors(self):
        self.refuses(BadTable(-1), part_of_half, [])
        self.refuses(BadTable(-1), part_of_half, None)
        self.refuses(BadTable(1), part_of_half, [[ONE], [ONE, ONE]])
        self.refuses(TooMany(12), part_of_half, [[ONE] * 13])
        # The rows as passed in are looked at first.
        self.refuses(BadNumber(1), part_of_half, [[None, 5], [6, 7]])
        self.refuses(BadNumber(0), part_of_half, [[ONE, ONE, None], [5, ONE, 6]])
        # The box is one of the half-turned rows.
        self.refuses(BadBlank(0, 1), part_of_half, [[None, ONE]])
        self.refuses(BadBlank(1, 1), part_of_half, [[ONE, None], [None, ONE], [None, None]])
        self.refuses(BadBlank(1, 2), part_of_half, [[None, ONE, ONE], [ONE, ONE, ONE]])
        self.refuses(BadBlank(1, 2), part_of_half, [[None] * 3] * 2)


class Cores(Case):
    def test_the_same_for_all_fillings(self):
        for part in PARTS:
            found = known_core(part)
            self.assertEqual(known_core(part=part), found)
            self.assertEqual(found, tuple(tuple(row) for row in plain_core(part)))
            self.assertTrue(all(type(row) is tuple for row in found))
            for _ in range(4):
                core = unmade(fill_with(part, numbers_from(RNG, len(blanks_of(part)))))
                for row in range(part.high):
                    for column in range(part.wide):
                        if part.rows[row][column] is None:
                            self.assertIsNone(found[row][column])
                        else:
                            self.assertEqual(found[row][column], core.rows[row][column])

    def test_without_blanks(self):
        table = Table.read("1 2\n-1/3 0")
        self.assertEqual(known_core(PartTable(table.rows)), unmade(table).rows)


class Minors(Case):
    def test_all_lots(self):
        for part in PARTS:
            table = fill_with(part, [(7, 1)] * len(blanks_of(part)))
            for rows, columns in lot_pairs_of(part.high, part.wide, least=0):
                blank = [(row, column) for row in rows for column in columns if part.rows[row][column] is None]
                if blank:
                    self.refuses(BadBlank(*blank[0]), known_minor, part, list(rows), list(columns))
                else:
                    self.assertEqual(known_minor(part, list(rows), list(columns)), plain_minor(table, rows, columns))
        part = PartTable([[None, ONE]])
        self.assertEqual(known_minor(part=part, rows=(), columns=()), ONE)
        self.assertEqual(known_minor(part, [0], [1]), ONE)

    def test_errors_in_order(self):
        part = PartTable([[None, ONE], [ONE, ONE], [ONE, ONE]])
        for wrong in (None, 0, "0", {0: 0}):
            self.refuses(BadLot(-1), known_minor, part, wrong, None)
            self.refuses(BadLot(-1), known_minor, part, [0], wrong)
        for wrong in WRONG_INTEGERS + (3,):
            self.refuses(BadLot(0), known_minor, part, [wrong], None)
        self.refuses(BadLot(1), known_minor, part, [1, 1], [9])
        for wrong in WRONG_INTEGERS + (2,):
            self.refuses(BadLot(0), known_minor, part, [0], [wrong])
        self.refuses(OtherSize(2, 1), known_minor, part, [0, 1], [0])
        self.refuses(OtherSize(0, 1), known_minor, part, [], [0])
        self.refuses(BadBlank(0, 0), known_minor, part, [0], [0])


if __name__ == "__main__":
    unittest.main()
