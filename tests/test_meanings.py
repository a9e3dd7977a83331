import random
import unittest
from math import comb

from helpers import Case, good_tables, lot_pairs_of, plain_good, plain_minor, table_of, tables_of_any_sign
from minusless.errors import BadLot, OtherSize, TooMany
from minusless.meanings import (is_all_above_plainly, is_good_plainly, least_bad, meaning, nought_minors,
                                product_minor)
from minusless.minors import minor, rank_of
from minusless.tables import Table

# All minors of this table and of each of its parts are above 0.
ABOVE = table_of([[(row + 1) ** column for column in range(4)] for row in range(4)])


class Meanings(Case):
    def test_all_minors_in_order(self):
        for table in tables_of_any_sign(40):
            pairs = lot_pairs_of(table.high, table.wide)
            wanted = tuple((rows, columns, plain_minor(table, rows, columns)) for rows, columns in pairs)
            self.assertEqual(meaning(table), wanted)
            self.assertEqual(len(wanted), comb(table.high + table.wide, table.high) - 1)

    def test_the_order(self):
        told = [(rows, columns) for rows, columns, _ in meaning(Table.unit(3))]
        self.assertEqual(told[:4], [((0,), (0,)), ((0,), (1,)), ((0,), (2,)), ((1,), (0,))])
        self.assertEqual(told[9:12], [((0, 1), (0, 1)), ((0, 1), (0, 2)), ((0, 1), (1, 2))])
        self.assertEqual(told[-1], ((0, 1, 2), (0, 1, 2)))
        self.assertEqual(len(told), 19)

    def test_equal_tables_have_equal_meanings(self):
        tables = [table for table in tables_of_any_sign(60, 2)]
        for one in tables:
            for other in tables:
                if (one.high, one.wide) == (other.high, other.wide):
                    self.assertEqual(meaning(one) == meaning(other), one == other)

    def test_six_and_seven(self):
        self.assertEqual(len(meaning(Table.nought(6, 6))), 923)
        for table in (Table.nought(7, 1), Table.nought(1, 7), Table.nought(12, 12)):
            for action in (meaning, is_good_plainly, is_all_above_plainly, least_bad, nought_minors):
                self.refuses(TooMany(6), action, table)
        for table in (Table.nought(6, 1), Table.nought(1, 6), Table.unit(6)):
            self.assertIs(is_good_plainly(table), True)
            self.assertIs(is_all_above_plainly(table), False)
            self.assertIsNone(least_bad(table))
            self.assertEqual(nought_minors(table=table)[0][0], (0,))


class Good(Case):
    def test_against_minors(self):
        for table in tables_of_any_sign(80) + good_tables(40):
            numbers = [number for _, _, number in meaning(table)]
            self.assertIs(is_good_plainly(table), min(top for top, _ in numbers) >= 0)
            self.assertIs(is_all_above_plainly(table), min(top for top, _ in numbers) > 0)

    def test_known_tables(self):
        self.assertTrue(is_all_above_plainly(ABOVE))
        self.assertTrue(is_good_plainly(ABOVE))
        self.assertTrue(is_good_plainly(Table.nought(2, 2)))
        self.assertFalse(is_all_above_plainly(table_of([[1, 1], [1, 1]])))
        self.assertFalse(is_good_plainly(table_of([[0, 1], [1, 0]])))

    def test_least_bad(self):
        for table in tables_of_any_sign(120, seed=8) + good_tables(40):
            bad = [(rows, columns) for rows, columns, number in meaning(table) if number[0] < 0]
            self.assertEqual(least_bad(table), bad[0] if bad else None)
            self.assertEqual(least_bad(table) is None, plain_good(table))
            if bad:
                size = len(bad[0][0])
                self.assertTrue(all(top >= 0 for rows, _, (top, _) in meaning(table) if len(rows) < size))

    def test_nought_minors(self):
        for table in tables_of_any_sign(40) + good_tables(20):
            wanted = tuple((rows, columns) for rows, columns, number in meaning(table) if number == (0, 1))
            self.assertEqual(nought_minors(table), wanted)

    def test_rank(self):
        for table in good_tables(30):
            sizes = [len(rows) for rows, _, number in meaning(table) if number != (0, 1)]
            self.assertEqual(rank_of(table), max(sizes, default=0))


class StaysGood(Case):
    def test_changed_tables(self):
        rng = random.Random(9)
        for table in good_tables(60, 3):
            row = rng.randrange(table.high)
            changed = [table.turned(), table.half_turned(), table.copied_row(row),
                       table.times_row(row, (rng.randint(0, 3), 1)),
                       table.with_row(rng.randint(0, table.high), [(0, 1)] * table.wide)]
            changed += [table.joined_rows(at) for at in range(table.high - 1)]
            changed += [table.part(rows, columns) for rows, columns in lot_pairs_of(table.high, table.wide)]
            for other in changed:
                self.assertTrue(is_good_plainly(other))

    def test_products(self):
        tables = good_tables(25, 3, seed=10)
        for one in tables:
            for other in tables:
                if one.wide == other.high:
                    self.assertTrue(is_good_plainly(one * other))

    def test_all_above(self):
        for rows, columns in lot_pairs_of(4, 4):
            part = ABOVE.part(rows, columns)
            for other in (part, part.turned(), part.half_turned()):
                self.assertTrue(is_all_above_plainly(other))
        for high, middle, wide in ((2, 2, 3), (3, 3, 3), (2, 4, 4), (4, 2, 2), (1, 1, 4), (3, 2, 3), (3, 1, 2)):
            one = ABOVE.part(range_lot(high), range_lot(middle))
            other = ABOVE.part(range_lot(middle), range_lot(wide))
            self.assertEqual(is_all_above_plainly(one * other), middle >= min(high, wide))


def range_lot(size):
    return tuple(range(size))


class Products(Case):
    def test_each_minor_of_a_product(self):
        for one in tables_of_any_sign(14, 3, seed=11):
            for other in tables_of_any_sign(14, 3, seed=12):
                if one.wide != other.high:
                    continue
                for rows, columns in lot_pairs_of(one.high, other.wide, 0):
                    self.assertEqual(product_minor(one, other, rows, list(columns)), minor(one * other, rows, columns))

    def test_larger_lots_than_the_middle(self):
        one = table_of([[1], [2]])
        other = table_of([[3, 4]])
        self.assertEqual(product_minor(one, other, [0, 1], [0, 1]), (0, 1))

    def test_any_size(self):
        self.assertEqual(product_minor(Table.unit(12), Table.unit(12), [3, 7], [3, 7]), (1, 1))

    def test_errors_in_order(self):
        one, other = Table.nought(2, 3), Table.nought(3, 4)
        self.refuses(OtherSize(3, 2), product_minor, one, one, None, None)
        self.refuses(BadLot(0), product_minor, one, other, [2], None)
        self.refuses(BadLot(0), product_minor, one, other, [1], [4])
        self.refuses(BadLot(-1), product_minor, one, other, None, [4])
        self.refuses(OtherSize(1, 2), product_minor, one, other, [1], [2, 3])
        self.assertEqual(product_minor(one=one, other=other, rows=(), columns=()), (1, 1))


if __name__ == "__main__":
    unittest.main()
