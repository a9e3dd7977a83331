import random
import unittest

from helpers import WRONG_INTEGERS, Case, num, random_table, tables_of_any_sign
from minusless.errors import BadBox, BadWant, NotSquare, OtherSize, TooMany
from minusless.greedy import company_in
from minusless.lots import lots
from minusless.mainrule import is_good, stair_of
from minusless.meanings import meaning
from minusless.results import power_stair, product_noughts, product_of, result_stair
from minusless.stairs import Stair
from minusless.tables import Table
from minusless.unmaking import unmade
from stairhelpers import STAIRS, STAIRS_OF, good_on, random_stair

NOUGHT, ONE = (0, 1), (1, 1)
SQUARES = [stair for stair in STAIRS if stair.high == stair.wide]


class Products(Case):
    def test_stairs_of_products(self):
        rng = random.Random(41)
        for _ in range(400):
            one = rng.choice(STAIRS)
            other = rng.choice(STAIRS_OF[one.wide, rng.randint(1, 3)])
            found = product_noughts(one, other)
            self.assertIsInstance(found, Stair)
            self.assertEqual(product_noughts(one=one, other=other), found)
            for _ in range(3):
                self.assertEqual(stair_of(good_on(rng, one) * good_on(rng, other)), found)

    def test_companies_through_both(self):
        rng = random.Random(42)
        for _ in range(40):
            one = rng.choice(STAIRS)
            other = rng.choice(STAIRS_OF[one.wide, rng.randint(1, 3)])
            table = good_on(rng, one) * good_on(rng, other)
            for rows, columns, value in meaning(table):
                through = [lot for lot in lots(one.wide, len(rows)) if company_in(one, rows, lot) is not None
                           and company_in(other, lot, columns) is not None]
                self.assertIs(value[0] > 0, through != [])

    def test_three(self):
        rng = random.Random(43)
        for _ in range(60):
            one, two, three = (random_stair(rng, 4, 4, 0.6) for _ in range(3))
            self.assertEqual(product_noughts(product_noughts(one, two), three),
                             product_noughts(one, product_noughts(two, three)))

    def test_errors(self):
        self.refuses(OtherSize(3, 2), product_noughts, Stair.all_full(2, 3), Stair.all_full(2, 4))
        self.refuses(OtherSize(6, 5), product_noughts, Stair.all_full(6, 6), Stair.all_full(5, 6))
        for high, middle, wide in ((6, 1, 1), (1, 6, 1), (1, 1, 6)):
            self.refuses(TooMany(5), product_noughts, Stair.all_full(high, middle), Stair.all_full(middle, wide))
        self.assertEqual(product_noughts(Stair.all_full(5, 5), Stair.all_full(5, 5)), Stair.all_full(5, 5))
        self.assertEqual(product_noughts(Stair.all_full(5, 5), Stair.all_empty(5, 5)), Stair.all_empty(5, 5))


class Results(Case):
    def check_deed(self, stair, deed, at, change):
        for seed in (1, 2):
            table = good_on(random.Random(seed), stair)
            self.assertEqual(result_stair(stair, deed, at), stair_of(change(table)), (stair.words(), deed, at))
        self.assertEqual(result_stair(stair=stair, deed=deed, at=at), result_stair(stair, deed, at))

    def test_each_deed(self):
        for stair in STAIRS[::3]:
            for at in range(stair.high):
                self.check_deed(stair, "copied", at, lambda table, at=at: table.copied_row(at))
            for at in range(stair.high - 1):
                self.check_deed(stair, "joined", at, lambda table, at=at: table.joined_rows(at))
            if stair.high > 1:
                for at in range(stair.high):
                    self.check_deed(stair, "without row", at, lambda table, at=at: table.without_row(at))
            if stair.wide > 1:
                for at in range(stair.wide):
                    self.check_deed(stair, "without column", at, lambda table, at=at: table.without_column(at))
            for at in (0, None, -5, "x"):
                self.check_deed(stair, "half", at, lambda table: table.half_turned())
                self.check_deed(stair, "turned", at, lambda table: table.turned())

    def test_errors(self):
        stair = Stair.all_full(3, 2)
        for wrong in (None, 1, "", "Copied", "copied_row", "row", ["copied"], ("copied",), True):
            self.refuses(BadWant("deed"), result_stair, stair, wrong, None)
        for wrong in WRONG_INTEGERS + (3,):
            for deed in ("copied", "joined", "without row"):
                self.refuses(BadBox(wrong, -1), result_stair, stair, deed, wrong)
        for wrong in WRONG_INTEGERS + (2,):
            self.refuses(BadBox(-1, wrong), result_stair, stair, "without column", wrong)
        self.refuses(BadBox(2, -1), result_stair, stair, "joined", 2)
        self.refuses(BadBox(0, -1), result_stair, Stair.all_full(1, 2), "joined", 0)
        self.refuses(TooMany(1), result_stair, Stair.all_full(1, 2), "without row", 0)
        self.refuses(TooMany(1), result_stair, Stair.all_full(2, 1), "without column", 0)
        self.refuses(TooMany(12), result_stair, Stair.all_full(12, 1), "copied", 0)

    def test_twelve(self):
        self.assertEqual(result_stair(Stair.all_full(12, 12), "joined", 10), Stair.all_full(11, 12))
        self.assertEqual(result_stair(Stair.all_empty(12, 12), "half", 0), Stair.all_empty(12, 12))


class Powers(Case):
    def test_stairs_of_powers(self):
        rng = random.Random(44)
        for stair in SQUARES[::2]:
            table = good_on(rng, stair)
            power = table
            for times in range(1, 6):
                self.assertEqual(power_stair(stair, times), stair_of(power))
                power = power * table
        self.assertEqual(power_stair(stair=Stair([[1, 1], [0, 1]]), times=20), Stair([[1, 1], [0, 1]]))

    def test_twenty(self):
        for stair in (Stair.of_core(Table.unit(12)), Stair.all_full(12, 12), Stair.all_empty(12, 12)):
            self.assertEqual(power_stair(stair, 20), stair)
            self.assertEqual(power_stair(stair, 1), stair)
        # One row more is full with each power, so that none of the products is left out.
        rows = [[num(int(abs(row - column) <= 1) + int(row == column)) for column in range(12)] for row in range(12)]
        stair = stair_of(Table(rows))
        self.assertNotEqual(power_stair(stair, 10), Stair.all_full(12, 12))
        self.assertEqual(power_stair(stair, 11), Stair.all_full(12, 12))

    def test_errors(self):
        self.refuses(NotSquare(2, 3), power_stair, Stair.all_full(2, 3), None)
        for wrong in WRONG_INTEGERS + (0, 21):
            self.refuses(BadWant("times"), power_stair, Stair.all_full(2, 2), wrong)


class ManyTables(Case):
    def test_products(self):
        rng = random.Random(45)
        for _ in range(40):
            sides = [rng.randint(1, 3) for _ in range(rng.randint(2, 5))]
            tables = [random_table(rng, high, wide) for high, wide in zip(sides, sides[1:])]
            wanted = tables[-1]
            for table in tables[-2::-1]:
                wanted = table * wanted
            self.assertEqual(product_of(list(tables)), wanted)
            self.assertEqual(product_of(tables=tuple(tables)), wanted)

    def test_refused(self):
        table = Table.unit(2)
        for wrong in (None, 1, table, "", (), [], {0: table}, [table, None], [None, table], [table, table.rows],
                      (table, Stair.all_full(2, 2)), [Table.unit(3), table, 1]):
            self.refuses(BadWant("tables"), product_of, wrong)
        self.refuses(OtherSize(2, 3), product_of, [table, Table.unit(3)])
        self.refuses(OtherSize(3, 4), product_of, [table, Table.nought(2, 3), Table.nought(4, 5), table])
        self.refuses(OtherSize(5, 2), product_of, [table, Table.nought(2, 5), table, Table.unit(3)])


class Copies(Case):
    def test_copied_rows_in_the_core(self):
        for table in tables_of_any_sign(80, seed=46):
            core = unmade(table)
            for at in range(table.high):
                row = core.rows[at]
                full = [column for column, number in enumerate(row) if number != NOUGHT]
                added = tuple(number if full and column == full[-1] else NOUGHT for column, number in enumerate(row))
                self.assertEqual(unmade(table.copied_row(at)).rows, core.rows[:at] + (added,) + core.rows[at:])

    def test_copied_columns_in_the_core(self):
        for table in tables_of_any_sign(80, seed=47):
            core = unmade(table)
            for at in range(table.wide):
                column = [row[at] for row in core.rows]
                full = [place for place, number in enumerate(column) if number != NOUGHT]
                added = [number if full and place == full[-1] else NOUGHT for place, number in enumerate(column)]
                copied = table.with_column(at, [row[at] for row in table.rows])
                self.assertEqual(unmade(copied), core.with_column(at, added))

    def test_the_sum_of_two_rows_between_them(self):
        rng = random.Random(48)
        for stair in STAIRS[::4]:
            table = good_on(rng, stair)
            for at in range(table.high - 1):
                self.assertTrue(is_good(table.with_row(at + 1, table.joined_rows(at).rows[at])))


if __name__ == "__main__":
    unittest.main()
