import random
import unittest

from helpers import Case, plain_good, plain_minor, random_table, tables_of_any_sign
from minusless.codes import column_code, row_code, stair_of_codes
from minusless.errors import NoTurning, NotSquare, OtherSize
from minusless.mainrule import is_good
from minusless.minors import determinant
from minusless.stairs import Stair
from minusless.tables import Table
from minusless.threeparts import is_solid, joined_parts, three_parts
from stairhelpers import STAIRS, good_on, good_tables_on
from test_codes import plain_codes

NOUGHT, ONE = (0, 1), (1, 1)
RNG = random.Random(1)
SQUARES = [random_table(RNG, size, size, noughts=RNG.choice((0.1, 0.4))) for size in (1, 2, 3, 4) for _ in range(60)]
GOOD_SQUARES = good_tables_on([stair for stair in STAIRS[::2] if stair.high == stair.wide], seed=10)


def may_be_divided(table):
    return all(plain_minor(table, range(many), range(many)) != NOUGHT for many in range(1, table.high + 1))


class ThreeParts(Case):
    def test_product_and_form(self):
        divided = 0
        for table in SQUARES + GOOD_SQUARES:
            if not may_be_divided(table):
                self.refuses(NoTurning(), three_parts, table)
                continue
            divided += 1
            lower, middle, upper = three_parts(table)
            self.assertIsInstance(three_parts(table=table), tuple)
            for row in range(table.high):
                for column in range(table.high):
                    same = ONE if row == column else NOUGHT
                    if column >= row:
                        self.assertEqual(lower.entry(row, column), same)
                    if column <= row:
                        self.assertEqual(upper.entry(row, column), same)
                    if column != row:
                        self.assertEqual(middle.entry(row, column), NOUGHT)
            self.assertEqual(lower * middle * upper, table)
            self.assertEqual(joined_parts(lower, middle, upper), table)
            solid = is_good(lower) and is_good(upper) and all(middle.entry(at, at)[0] > 0 for at in range(table.high))
            self.assertIs(is_solid(table), solid)
        self.assertGreater(divided, 100)

    def test_codes_of_the_parts(self):
        rng = random.Random(2)
        for size in range(1, 4):
            for rows_code in plain_codes(size):
                for columns_code in plain_codes(size):
                    lower, _, upper = three_parts(good_on(rng, stair_of_codes(rows_code, columns_code)))
                    self.assertEqual((row_code(lower), column_code(upper)), (rows_code, columns_code))
                    self.assertEqual(column_code(lower), tuple(range(size)))

    def test_example(self):
        lower, middle, upper = three_parts(Table.read("2 1\n4 5"))
        self.assertEqual([part.words() for part in (lower, middle, upper)], ["1 0\n2 1", "2 0\n0 3", "1 1/2\n0 1"])
        self.refuses(NoTurning(), three_parts, Table.read("0 1\n1 0"))
        self.refuses(NoTurning(), three_parts, Table.read("1 1 0\n1 1 1\n0 1 1"))
        self.refuses(NoTurning(), three_parts, Table.read("1 1\n1 1"))
        self.assertEqual(three_parts(Table.read("-3")), (Table.unit(1), Table.read("-3"), Table.unit(1)))

    def test_errors_in_order(self):
        self.refuses(NotSquare(2, 3), three_parts, Table.nought(2, 3))
        self.refuses(NotSquare(3, 2), three_parts, Table.read("1 0\n0 1\n0 0"))

    def test_twelve(self):
        table = good_on(random.Random(3), Stair.all_full(12, 12))
        self.assertEqual(joined_parts(*three_parts(table)), table)


class Solid(Case):
    def test_any_table(self):
        found = {True: 0, False: 0}
        for table in SQUARES + GOOD_SQUARES + tables_of_any_sign(60, seed=201):
            square = table.high == table.wide
            wanted = square and plain_good(table) and determinant(table)[0] > 0
            self.assertIs(is_solid(table), wanted)
            found[wanted] += 1
        self.assertGreater(min(found.values()), 10)

    def test_each_condition_alone(self):
        for words, wanted in (("1 1\n1 2", True), ("1 1\n1 1", False), ("1 -1\n0 1", False), ("-1 0\n0 -1", False),
                              ("1 0 0\n0 1 0", False), ("0", False), ("5", True), ("1 2\n2 1", False)):
            self.assertIs(is_solid(table=Table.read(words)), wanted)
        self.assertIs(is_solid(Table.unit(12)), True)


class Joined(Case):
    def test_any_tables(self):
        rng = random.Random(4)
        for _ in range(30):
            one, two, three = (random_table(rng, rng.randint(1, 3), rng.randint(1, 3)) for _ in range(3))
            if one.wide != two.high:
                self.refuses(OtherSize(one.wide, two.high), joined_parts, one, two, three)
            elif two.wide != three.high:
                self.refuses(OtherSize(two.wide, three.high), joined_parts, one, two, three)
            else:
                self.assertEqual(joined_parts(lower=one, middle=two, upper=three), one * (two * three))

    def test_errors_in_order(self):
        self.refuses(OtherSize(2, 3), joined_parts, Table.unit(2), Table.nought(3, 2), Table.unit(4))
        self.refuses(OtherSize(3, 4), joined_parts, Table.unit(2), Table.nought(2, 3), Table.unit(4))


if __name__ == "__main__":
    unittest.main()
