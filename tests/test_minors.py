import random
import unittest

from helpers import Case, lot_pairs_of, num, plain_minor, random_table, table_of, tables_of_any_sign
from minusless.errors import BadLot, NotSquare, OtherSize, TooMany
from minusless.minors import determinant, is_bad, minor, plain_determinant, rank_of
from minusless.numbers import less
from minusless.tables import Table


def square_tables(count, most, seed):
    rng = random.Random(seed)
    return [random_table(rng, size, size) for size in [rng.randint(1, most) for _ in range(count)]]


class Determinants(Case):
    def test_both_agree(self):
        for table in square_tables(120, 4, 1):
            size = tuple(range(table.high))
            wanted = plain_minor(table, size, size)
            self.assertEqual(determinant(table), wanted)
            self.assertEqual(plain_determinant(table), wanted)
        for table in square_tables(10, 6, 2):
            self.assertEqual(determinant(table), plain_determinant(table))

    def test_turned(self):
        for table in square_tables(60, 5, 3):
            self.assertEqual(determinant(table), determinant(table.turned()))
            self.assertEqual(determinant(table), determinant(table.half_turned()))

    def test_exchanged_rows_turn_the_sign(self):
        rng = random.Random(4)
        for table in square_tables(60, 5, 5):
            if table.high == 1:
                continue
            one, other = rng.sample(range(table.high), 2)
            rows = list(table.rows)
            rows[one], rows[other] = rows[other], rows[one]
            self.assertEqual(determinant(Table(rows)), less((0, 1), determinant(table)))
            self.assertEqual(plain_determinant(Table(rows)), less((0, 1), determinant(table)))

    def test_noughts_at_the_start(self):
        self.assertEqual(determinant(table_of([[0, 1], [1, 0]])), (-1, 1))
        self.assertEqual(determinant(table_of([[0, 0, 2], [0, 3, 0], [5, 0, 0]])), (-30, 1))
        self.assertEqual(determinant(table_of([[0, 2, 0], [0, 0, 3], [5, 0, 0]])), (30, 1))
        self.assertEqual(determinant(table_of([[0, 2], [0, 5]])), (0, 1))

    def test_sizes(self):
        self.assertEqual(determinant(Table.unit(12)), (1, 1))
        self.assertEqual(determinant(Table.unit(12).times_row(3, (-2, 3))), (-2, 3))
        self.assertEqual(plain_determinant(Table.unit(6)), (1, 1))
        self.refuses(TooMany(6), plain_determinant, Table.unit(7))
        self.refuses(NotSquare(7, 8), plain_determinant, Table.nought(7, 8))
        for action in (determinant, plain_determinant):
            self.refuses(NotSquare(2, 3), action, Table.nought(2, 3))
            self.refuses(NotSquare(3, 1), action, Table.nought(3, 1))
            self.assertEqual(action(table=table_of([[7]])), (7, 1))


class Minors(Case):
    def test_against_permutations(self):
        for table in tables_of_any_sign(50):
            for rows, columns in lot_pairs_of(table.high, table.wide, 0):
                wanted = plain_minor(table, rows, columns)
                self.assertEqual(minor(table, list(rows), columns), wanted)
                self.assertIs(is_bad(table, rows, list(columns)), wanted[0] < 0)

    def test_empty_lots(self):
        self.assertEqual(minor(Table.nought(2, 3), (), []), (1, 1))
        self.assertIs(is_bad(Table.nought(2, 3), [], ()), False)

    def test_errors_in_order(self):
        table = Table.nought(2, 3)
        for action in (minor, is_bad):
            self.refuses(BadLot(0), action, table, [2], None)
            self.refuses(BadLot(-1), action, table, None, None)
            self.refuses(BadLot(1), action, table, [0, True], [0])
            self.refuses(BadLot(0), action, table, [0, 1], [3])
            self.refuses(BadLot(1), action, table, [0, 1], [2, 2])
            self.refuses(BadLot(-1), action, table, [0, 1], "01")
            self.refuses(OtherSize(2, 1), action, table, [0, 1], [0])
            self.refuses(OtherSize(0, 1), action, table, [], [2])
            self.assertIn(action(table=table, rows=(1,), columns=(2,)), ((0, 1), False))


class Rank(Case):
    def test_against_minors(self):
        for table in tables_of_any_sign(120):
            found = [len(rows) for rows, columns in lot_pairs_of(table.high, table.wide)
                     if plain_minor(table, rows, columns) != (0, 1)]
            self.assertEqual(rank_of(table), max(found, default=0))

    def test_edges(self):
        self.assertEqual(rank_of(Table.nought(3, 2)), 0)
        self.assertEqual(rank_of(Table.unit(12)), 12)
        self.assertEqual(rank_of(table_of([[0, 0, 1], [0, 0, 2]])), 1)
        self.assertEqual(rank_of(table_of([[0, 0, 1], [0, 1, 2], [0, 0, 0]])), 2)

    def test_products(self):
        for one in tables_of_any_sign(25, seed=6):
            for other in tables_of_any_sign(25, seed=7):
                if one.wide == other.high:
                    self.assertLessEqual(rank_of(one * other), min(rank_of(one), rank_of(other)))

    def test_large_numbers(self):
        table = Table([[num(10 ** 60 + row * column) for column in range(12)] for row in range(12)])
        self.assertEqual(rank_of(table), 2)


if __name__ == "__main__":
    unittest.main()
