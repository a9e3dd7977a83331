import random
import unittest

from helpers import WRONG_INTEGERS, Case, frac, random_table, table_of
from minusless.codes import column_code, row_code, stair_of_codes, turned_order
from minusless.errors import BadWant, NoStep, NotGood, NotSquare, NoTurning
from minusless.mainrule import is_good
from minusless.meanings import is_all_above_plainly
from minusless.minors import determinant
from minusless.powers import all_power, back_with_signs, neighbours_full, power
from minusless.stairs import Stair
from minusless.tables import Table
from stairhelpers import good_on
from wordhelpers import plain_codes, solid_tables

NOUGHT = (0, 1)
SOLID = solid_tables(3, seed=51)
RNG = random.Random(52)
SQUARES = [random_table(RNG, size, size, noughts=noughts) for size in (1, 2, 3, 4)
           for noughts in (0.1, 0.4) for _ in range(30)]


def narrow(rng, size):
    """A solid table with 0 outside the diagonal and what is next to it, where no entry is 0."""
    rows = [[0] * size for _ in range(size)]
    for at in range(size):
        rows[at][at] = rng.randint(3, 5)
        if at:
            rows[at][at - 1] = rows[at - 1][at] = 1
    return table_of(rows)


class AllPower(Case):
    def test_powers_one_by_one(self):
        counted = 0
        for rows_code, columns_code, table in SOLID:
            if not neighbours_full(table):
                self.refuses(NoStep(), all_power, table)
                continue
            counted += 1
            found = all_power(table)
            self.assertEqual(all_power(table=table), found)
            above = [is_all_above_plainly(power(table, times)) for times in range(1, 6)]
            self.assertEqual(above, [times >= found for times in range(1, 6)])
            self.assertTrue(1 <= found <= max(1, table.high - 1))
            other = good_on(random.Random(53), stair_of_codes(rows_code, columns_code))
            self.assertEqual(all_power(other), found)
        self.assertGreater(counted, 10)

    def test_size_four(self):
        rng = random.Random(54)
        codes = plain_codes(4)
        seen = set()
        for _ in range(150):
            table = good_on(rng, stair_of_codes(rng.choice(codes), rng.choice(codes)))
            if neighbours_full(table):
                found = all_power(table)
                seen.add(found)
                self.assertTrue(is_all_above_plainly(power(table, found)))
                self.assertFalse(found > 1 and is_all_above_plainly(power(table, found - 1)))
        self.assertLessEqual({2, 3}, seen)

    def test_narrow(self):
        rng = random.Random(55)
        for size in range(2, 13):
            self.assertEqual(all_power(narrow(rng, size)), size - 1)
        self.assertEqual((all_power(Table.read("1/2")), all_power(good_on(rng, Stair.all_full(12, 12)))), (1, 1))

    def test_errors(self):
        self.refuses(NotSquare(1, 2), all_power, Table.read("1 1"))
        self.refuses(NotGood(0, 0), all_power, Table.read("1 2\n2 1"))
        self.refuses(NotGood(1, 1), all_power, Table.read("0 1\n1 0"))
        self.refuses(NoTurning(), all_power, Table.read("1 0\n0 0"))
        self.refuses(NoTurning(), all_power, Table.read("0"))
        self.refuses(NoStep(), all_power, Table.read("1 1\n0 1"))
        self.refuses(NoStep(), all_power, Table.read("1 0\n1 1"))
        self.refuses(NoStep(), all_power, Table.unit(12))


class Power(Case):
    def test_any_table(self):
        for table in SQUARES[::4]:
            wanted = Table.unit(table.high)
            for times in range(5):
                self.assertEqual(power(table, times), wanted)
                self.assertEqual(power(table=table, times=times), wanted)
                wanted = wanted * table
        self.assertEqual(power(Table.read("2"), 20), Table.read(str(2 ** 20)))
        self.assertEqual(power(Table.read("1 1\n0 1"), 20), Table.read("1 20\n0 1"))
        self.assertEqual(power(Table.read("0 1\n0 0"), 1), Table.read("0 1\n0 0"))

    def test_errors(self):
        self.refuses(NotSquare(2, 1), power, Table.read("1\n2"), None)
        for wrong in WRONG_INTEGERS + (21,):
            self.refuses(BadWant("times"), power, Table.unit(2), wrong)


class Back(Case):
    def test_any_table(self):
        turned = 0
        for table in SQUARES:
            if determinant(table) == NOUGHT:
                self.refuses(NoTurning(), back_with_signs, table)
                continue
            turned += 1
            found = back_with_signs(table)
            self.assertEqual(back_with_signs(table=table), found)
            plain = table_of([[frac(number) * (-1) ** (row + column) for column, number in enumerate(numbers)]
                              for row, numbers in enumerate(found.rows)])
            self.assertEqual(table * plain, Table.unit(table.high))
            self.assertEqual(plain * table, Table.unit(table.high))
            self.assertEqual(back_with_signs(found), table)
            self.assertIs(is_good(found), is_good(table))
        self.assertGreater(turned, 100)

    def test_solid(self):
        for rows_code, columns_code, table in SOLID:
            found = back_with_signs(table)
            self.assertTrue(is_good(found))
            self.assertEqual((row_code(found), column_code(found)),
                             (turned_order(rows_code), turned_order(columns_code)))
            self.assertEqual(back_with_signs(found), table)

    def test_errors(self):
        self.refuses(NotSquare(2, 3), back_with_signs, Table.nought(2, 3))
        self.refuses(NoTurning(), back_with_signs, Table.read("0"))
        self.refuses(NoTurning(), back_with_signs, Table.read("1 2\n2 4"))
        self.assertEqual(back_with_signs(Table.read("-2")), Table.read("-1/2"))
        self.assertEqual(back_with_signs(Table.read("0 1\n1 0")), Table.read("0 -1\n-1 0"))


class Neighbours(Case):
    def test_any_table(self):
        found = {True: 0, False: 0}
        for table in SQUARES:
            wanted = all(table.rows[i][j] != NOUGHT for i in range(table.high) for j in range(table.high)
                         if abs(i - j) == 1)
            self.assertIs(neighbours_full(table), wanted)
            found[wanted] += 1
        self.assertGreater(min(found.values()), 20)
        self.assertIs(neighbours_full(table=Table.read("0")), True)
        self.assertIs(neighbours_full(Table.read("0 -1\n1/2 0")), True)
        self.assertIs(neighbours_full(Table.read("0 1\n0 0")), False)
        self.assertIs(neighbours_full(Table.read("0 0\n1 0")), False)

    def test_errors(self):
        self.refuses(NotSquare(1, 2), neighbours_full, Table.read("1 1"))


if __name__ == "__main__":
    unittest.main()
