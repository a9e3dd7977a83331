import random
import unittest
from itertools import product

from helpers import (WRONG_INTEGERS, Case, good_tables, lot_pairs_of, num, plain_good, plain_minor, sizes,
                     tables_of_any_sign)
from minusless.breaking import breaking_row
from minusless.errors import BadWant, TooMany
from minusless.filling import emptiable_boxes
from minusless.minors import rank_of
from minusless.signs import SignRule
from minusless.stairs import Stair
from minusless.strict import is_all_above, most_over, rows_of_signs, strict_row
from minusless.tables import Table
from signhelpers import plain_changes, plain_strict, plain_taken, sign_rows
from stairhelpers import STAIRS, good_on, good_tables_on

NOUGHT, ONE = (0, 1), (1, 1)
RNG = random.Random(81)
ABOVE = [good_on(RNG, Stair.all_full(high, wide)) for high, wide in sizes(4)]
GOOD = good_tables_on(STAIRS[::9], seed=82) + good_tables(30, most=4, seed=83)
ANY = tables_of_any_sign(80, most=4, seed=84)
LARGE = ((7, 7), (12, 12), (1, 12), (12, 1), (8, 3), (5, 11), (7, 2), (2, 7))


def plain_above(table):
    return all(plain_minor(table, rows, columns)[0] > 0 for rows, columns in lot_pairs_of(table.high, table.wide))


class AllAbove(Case):
    def test_small(self):
        found = {True: 0, False: 0}
        for table in ABOVE + GOOD + ANY + [table.raised(0, 0, (-1, 2)) for table in ABOVE]:
            wanted = plain_above(table)
            self.assertIs(is_all_above(table), wanted)
            found[wanted] += 1
        self.assertGreater(min(found.values()), 15)
        self.assertIs(is_all_above(table=Table.read("1/2")), True)
        self.assertIs(is_all_above(Table.read("0")), False)
        self.assertIs(is_all_above(Table.read("-1")), False)

    def test_each_box_counts(self):
        for high, wide in sizes(4):
            full = Stair.all_full(high, wide)
            for row, column in emptiable_boxes(full):
                self.assertIs(is_all_above(good_on(RNG, full.without_box(row, column))), False)

    def test_large(self):
        for high, wide in LARGE:
            full = Stair.all_full(high, wide)
            table = good_on(RNG, full)
            self.assertIs(is_all_above(table), True)
            for row, column in emptiable_boxes(full):
                self.assertIs(is_all_above(good_on(RNG, full.without_box(row, column))), False)
            self.assertIs(is_all_above(table.raised(0, 0, (-10 ** 9, 1))), False)


class StrictRows(Case):
    def check_row(self, table, row):
        self.assertIs(type(row), tuple)
        self.assertEqual(len(row), table.wide)
        self.assertNotEqual(plain_changes(row), -1)
        self.assertIs(SignRule(table).strict(row), False)
        self.assertIs(plain_strict(table, row), False)

    def test_not_good(self):
        for table in ANY:
            if not plain_good(table):
                row = strict_row(table)
                self.assertEqual(row, breaking_row(table))
                self.check_row(table, row)

    def test_good_with_a_nought(self):
        told = 0
        for table in GOOD:
            row = strict_row(table)
            self.assertEqual(strict_row(table=table), row)
            if plain_above(table):
                self.assertIsNone(row)
                continue
            told += 1
            rows, columns = next(pair for pair in lot_pairs_of(table.high, table.wide)
                                 if plain_minor(table, *pair) == NOUGHT)
            wanted = [NOUGHT] * table.wide
            for place, column in enumerate(columns):
                top, under = plain_minor(table, rows[1:], columns[:place] + columns[place + 1:])
                wanted[column] = ((-1) ** place * top, under)
                self.assertGreater(top, 0)
            self.assertEqual(row, tuple(wanted))
            self.check_row(table, row)
            self.assertTrue(all(plain_taken(table, row)[at] == NOUGHT for at in rows))
        self.assertGreater(told, 40)

    def test_only_the_whole_is_nought(self):
        for size in (2, 3, 4):
            table = good_on(RNG, Stair.all_full(size, size).without_box(0, 0))
            row = strict_row(table)
            self.check_row(table, row)
            self.assertEqual([number[0] > 0 for number in row], [place % 2 == 0 for place in range(size)])

    def test_all_above(self):
        for table in ABOVE:
            self.assertIsNone(strict_row(table))
            self.assertTrue(all(SignRule(table).strict(row) for row in sign_rows(table.wide) if plain_changes(row) >= 0))

    def test_bounds(self):
        self.assertIsNone(strict_row(good_on(RNG, Stair.all_full(6, 6))))
        self.assertEqual(strict_row(Table.nought(6, 6)), (ONE,) + (NOUGHT,) * 5)
        for high, wide in ((7, 1), (1, 7), (12, 12)):
            self.refuses(TooMany(6), strict_row, Table.nought(high, wide))


class RowsOfSigns(Case):
    def test_all_rows_in_order(self):
        for size in range(8):
            wanted = [row for row in product(((-1, 1), NOUGHT, ONE), repeat=size) if set(row) - {NOUGHT}]
            self.assertEqual(list(rows_of_signs(size)), wanted)
        self.assertEqual(list(rows_of_signs(size=1)), [((-1, 1),), (ONE,)])
        self.assertEqual(list(rows_of_signs(0)), [])

    def test_errors(self):
        for wrong in WRONG_INTEGERS:
            self.refuses(BadWant("size"), lambda size: list(rows_of_signs(size)), wrong)
        for size in (8, 100):
            self.refuses(TooMany(7), lambda size: list(rows_of_signs(size)), size)


class MostOver(Case):
    def test_against_all_rows(self):
        for table in GOOD + ANY:
            wanted = max(plain_changes(plain_taken(table, row)) for row in sign_rows(table.wide)
                         if plain_changes(row) >= 0)
            self.assertEqual(most_over(table), wanted)
            if plain_good(table):
                self.assertLessEqual(wanted, rank_of(table) - 1)
        self.assertEqual(most_over(table=Table.nought(12, 5)), -1)
        self.assertEqual(most_over(Table.unit(5)), 4)

    def test_errors(self):
        for high, wide in ((1, 6), (6, 6), (12, 12)):
            self.refuses(TooMany(5), most_over, Table.nought(high, wide))
        self.assertEqual(most_over(Table([[num(row == column) for column in range(5)] for row in range(12)])), 4)


if __name__ == "__main__":
    unittest.main()
