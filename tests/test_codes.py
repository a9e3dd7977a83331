import random
import unittest
from itertools import permutations, product
from math import factorial

from helpers import WRONG_INTEGERS, Case, tables_of_any_sign
from minusless.codes import (check_code, code_length, code_of_order, codes_listed, column_code, greatest_code,
                             least_code, order_of, reach, row_code, stair_of_codes, turned_order)
from minusless.errors import BadBox, BadCode, BadWant, NotGood, NotSquare, NoTurning, OtherSize, TooMany
from minusless.mainrule import core_fault, stair_of
from minusless.minors import determinant, rank_of
from minusless.stairs import Stair
from minusless.tables import Table
from minusless.unmaking import unmade
from stairhelpers import STAIRS, good_on, good_tables_on, random_stairs

WRONG_FORMS = (None, 1, "01", "", (), [], {0: 0}, (0,) * 13, [0] * 13)


def plain_codes(size):
    return list(product(*[range(place + 1) for place in range(size)]))


CODES = [code for size in range(1, 5) for code in plain_codes(size)]


def plain_order(code):
    """The order of the code, by trying each row of numbers."""
    for order in permutations(range(len(code))):
        if all(sum(other < order[place] for other in order[:place]) == code[place] for place in range(len(code))):
            return order


class Codes(Case):
    def test_check_code(self):
        for code in CODES:
            self.assertEqual(check_code(list(code)), code)
            self.assertEqual(check_code(code=code), code)
        self.assertEqual(check_code(list(range(12))), tuple(range(12)))

    def wrong_codes(self):
        found = [(wrong, -1) for wrong in WRONG_FORMS]
        for wrong in (1, -1, None, True, False, 1.0, "0", (0,)):
            found.append(([wrong, 5], 0))
        for wrong in (3, -1, None, True, 1.5, "1"):
            found.append(((0, 1, wrong, 9), 2))
        return found

    def test_wrong_codes(self):
        for wrong, place in self.wrong_codes():
            for call in (check_code, code_length, order_of, turned_order):
                self.refuses(BadCode(place), call, wrong)
            self.refuses(BadCode(place), reach, wrong, None, None)
            self.refuses(BadCode(place), stair_of_codes, wrong, None)
            self.refuses(BadCode(place), stair_of_codes, (0,), wrong)

    def test_length(self):
        for code in CODES:
            self.assertEqual(code_length(list(code)), sum(range(len(code))) - sum(code))
            order = plain_order(code)
            inversions = sum(order[i] > order[k] for k in range(len(code)) for i in range(k))
            self.assertEqual(code_length(code=code), inversions)

    def test_least_and_greatest(self):
        for size in range(1, 13):
            least, greatest = least_code(size), greatest_code(size=size)
            self.assertEqual((least, greatest), (tuple(range(size)), (0,) * size))
            self.assertEqual((code_length(least), code_length(greatest)), (0, size * (size - 1) // 2))
            self.assertEqual(order_of(least), tuple(range(size)))
            self.assertEqual(order_of(greatest), tuple(range(size))[::-1])
        self.assertEqual(least_code(size=3), (0, 1, 2))

    def test_listed(self):
        for size in range(1, 6):
            found = list(codes_listed(size))
            self.assertEqual(found, sorted(plain_codes(size)))
            self.assertEqual(len(found), factorial(size))
            self.assertTrue(all(isinstance(code, tuple) for code in found))
        for size in (6, 12):
            self.refuses(TooMany(5), lambda: list(codes_listed(size)))

    def test_wrong_sizes(self):
        for wrong in WRONG_INTEGERS + (0, 13):
            self.refuses(BadWant("size"), least_code, wrong)
            self.refuses(BadWant("size"), greatest_code, wrong)
            self.refuses(BadWant("size"), lambda: list(codes_listed(size=wrong)))


class Orders(Case):
    def test_against_the_words(self):
        for code in CODES:
            order = plain_order(code)
            self.assertEqual(order_of(list(code)), order)
            self.assertEqual(code_of_order(list(order)), code)
            self.assertEqual(code_of_order(order=order_of(code=code)), code)
        self.assertEqual(order_of((0, 1, 0)), (1, 2, 0))

    def test_each_undoes_the_other(self):
        rng = random.Random(1)
        for _ in range(100):
            size = rng.randint(1, 12)
            code = tuple(rng.randint(0, place) for place in range(size))
            order = tuple(rng.sample(range(size), size))
            self.assertEqual(code_of_order(order_of(code)), code)
            self.assertEqual(order_of(code_of_order(order)), order)

    def test_wrong_orders(self):
        for wrong in WRONG_FORMS:
            self.refuses(BadCode(-1), code_of_order, wrong)
        for wrong in (3, -1, None, True, False, 1.0, "0", 1):
            self.refuses(BadCode(1), code_of_order, [1, wrong, 9])
        self.refuses(BadCode(2), code_of_order, (0, 1, 1))
        self.refuses(BadCode(2), code_of_order, (0, 1, 0, 2))
        self.refuses(BadCode(0), code_of_order, (1,))
        self.refuses(BadCode(1), code_of_order, (0, 2))

    def test_turned_order(self):
        for code in CODES:
            order = plain_order(code)
            turned = [order.index(place) for place in range(len(order))]
            self.assertEqual(order_of(turned_order(list(code))), tuple(turned))
            self.assertEqual(turned_order(turned_order(code=code)), code)
        self.assertEqual(turned_order((0, 1, 0)), code_of_order((2, 0, 1)))

    def test_reach(self):
        for code in CODES:
            order = plain_order(code)
            for row in range(len(code)):
                for column in range(len(code)):
                    wanted = sum(number <= column for number in order[row:])
                    self.assertEqual(reach(list(code), row, column), wanted)
        self.assertEqual(reach(code=(0, 1, 0), row=2, column=0), 1)

    def test_reach_is_a_rank(self):
        rng = random.Random(2)
        for code in CODES:
            size = len(code)
            for other in rng.sample(plain_codes(size), min(3, factorial(size))):
                table = good_on(rng, stair_of_codes(code, other))
                for row in range(size):
                    for column in range(size):
                        part = table.part(list(range(row, size)), list(range(column + 1)))
                        self.assertEqual(reach(code, row, column), rank_of(part))

    def test_wrong_boxes(self):
        for row, column in ((-1, 0), (0, -1), (3, 0), (0, 3), (True, 0), (0, False), (None, 0), (0, "1"), (0, None)):
            self.refuses(BadBox(row, column), reach, (0, 1, 0), row, column)


class SolidTables(Case):
    def test_codes_of_tables(self):
        rng = random.Random(3)
        for size in range(1, 4):
            for rows_code in plain_codes(size):
                for columns_code in plain_codes(size):
                    stair = stair_of_codes(list(rows_code), columns_code)
                    table = good_on(rng, stair)
                    self.assertGreater(determinant(table)[0], 0)
                    self.assertEqual((row_code(table), column_code(table)), (rows_code, columns_code))
                    self.assertEqual((row_code(~table), column_code(~table)), (columns_code, rows_code))
                    self.assertEqual(stair.many, size + code_length(rows_code) + code_length(columns_code))

    def test_stair_of_codes(self):
        for size in range(1, 5):
            codes = plain_codes(size)
            found = set()
            for rows_code in codes:
                for columns_code in codes if size < 4 else codes[::3]:
                    stair = stair_of_codes(rows_code=rows_code, columns_code=columns_code)
                    self.assertIsInstance(stair, Stair)
                    for row in range(size):
                        for column in range(size):
                            if column <= row:
                                self.assertIs(stair.has(row, column), rows_code[row] <= column)
                            if row <= column:
                                self.assertIs(stair.has(row, column), columns_code[column] <= row)
                    found.add(stair.rows)
            if size < 4:
                full = {stair.rows for stair in STAIRS if stair.high == stair.wide == size
                        and all(stair.has(at, at) for at in range(size))}
                self.assertEqual(found, full)
        self.assertEqual(stair_of_codes((0,) * 12, (0,) * 12), Stair.all_full(12, 12))

    def test_codes_of_unlike_length(self):
        self.refuses(OtherSize(2, 3), stair_of_codes, (0, 1), (0, 1, 2))
        self.refuses(OtherSize(3, 1), stair_of_codes, [0, 0, 0], [0])

    def test_what_is_not_solid(self):
        no_turning = 0
        for table in good_tables_on([stair for stair in STAIRS[::3] if stair.high == stair.wide]):
            solid = determinant(table)[0] > 0
            self.assertEqual(solid, all(stair_of(table).has(at, at) for at in range(table.high)))
            for call in (row_code, column_code):
                if not solid:
                    self.refuses(NoTurning(), call, table)
            no_turning += not solid
        self.assertGreater(no_turning, 30)

    def test_errors_in_order(self):
        for call in (row_code, column_code):
            self.refuses(NotSquare(2, 3), call, Table.read("-1 0 0\n0 1 0"))
            self.refuses(NotSquare(3, 2), call, Table.nought(3, 2))
            self.refuses(NotGood(1, 1), call, Table.read("0 1\n1 0"))
            self.refuses(NotGood(0, 1), call, Table.read("0 -1\n0 0"))
            self.refuses(NoTurning(), call, Table.nought(2, 2))
            for table in tables_of_any_sign(60, seed=191):
                fault = core_fault(unmade(table))
                if table.square and fault is not None:
                    self.refuses(NotGood(*fault), call, table)

    def test_of_any_size(self):
        rng = random.Random(4)
        self.assertEqual(row_code(table=Table.unit(12)), tuple(range(12)))
        table = good_on(rng, Stair.all_full(12, 12))
        self.assertEqual((row_code(table), column_code(table=table)), ((0,) * 12, (0,) * 12))
        for stair in random_stairs(60, 6, seed=12):
            if stair.high != stair.wide:
                self.refuses(NotSquare(stair.high, stair.wide), row_code, good_on(rng, stair))


if __name__ == "__main__":
    unittest.main()
