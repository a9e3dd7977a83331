import unittest
from itertools import combinations
from math import comb

from helpers import WRONG_INTEGERS, Case, all_patterns, plain_stair
from minusless.counting import choose, count_stairs, covering, crowded
from minusless.errors import BadWant

SMALL = [(high, wide) for high in range(5) for wide in range(5) if high * wide <= 12]


def every_column(rows, wide):
    return all(any(row[column] for row in rows) for column in range(wide))


def every_row(rows):
    return all(any(row) for row in rows)


class Choosing(Case):
    def test_choose(self):
        for size in range(8):
            for many in range(9):
                self.assertEqual(choose(size, many), len(list(combinations(range(size), many))))
        for many in range(61):
            self.assertEqual(choose(60, many), comb(60, many))
        self.assertEqual(choose(size=60, many=30), 118264581564861424)
        self.assertEqual((choose(59, 60), choose(0, 0), choose(0, 1)), (0, 1, 0))

    def test_refused(self):
        for wrong in WRONG_INTEGERS + (61,):
            self.refuses(BadWant("size"), choose, wrong, wrong)
            self.refuses(BadWant("many"), choose, 60, wrong)


class Counting(Case):
    def test_against_all_patterns(self):
        for high, wide in SMALL:
            stairs = [rows for rows in all_patterns(high, wide) if plain_stair(rows)]
            covered = [rows for rows in stairs if every_column(rows, wide)]
            self.assertEqual(count_stairs(high, wide), len(stairs))
            self.assertEqual(covering(high, wide), len(covered))
            self.assertEqual(crowded(high, wide), len([rows for rows in covered if every_row(rows)]))

    def test_without_rows_or_columns(self):
        for many in range(13):
            self.assertEqual((count_stairs(0, many), count_stairs(many, 0)), (1, 1))
            self.assertEqual((covering(0, many), covering(many, 0)), (int(many == 0), 1))
            self.assertEqual((crowded(0, many), crowded(many, 0)), (int(many == 0), int(many == 0)))

    def test_sums(self):
        for high in range(13):
            for wide in range(13):
                found = covering(high, wide)
                if high == 0:
                    self.assertEqual(found, int(wide == 0))
                else:
                    self.assertEqual(found, sum(comb(wide + 1, many) * covering(high - 1, many)
                                                for many in range(wide + 1)))
                    if wide < 12:
                        self.assertEqual(found, covering(wide + 1, high - 1))
                many = count_stairs(high, wide)
                self.assertEqual(many, sum(comb(wide, part) * covering(high, part) for part in range(wide + 1)))
                self.assertEqual(many, count_stairs(wide, high))

    def test_empty_rows_and_columns_put_in(self):
        for high in range(0, 13, 3):
            for wide in range(0, 13, 2):
                total = sum(comb(high, rows) * comb(wide, columns) * crowded(rows, columns)
                            for rows in range(high + 1) for columns in range(wide + 1))
                self.assertEqual(count_stairs(high, wide), total)
        total = sum(comb(12, rows) * comb(12, columns) * crowded(rows, columns)
                    for rows in range(13) for columns in range(13))
        self.assertEqual(count_stairs(high=12, wide=12), total)
        self.assertEqual(crowded(high=12, wide=11), crowded(11, 12))

    def test_one_and_two_rows(self):
        for wide in range(13):
            self.assertEqual(count_stairs(1, wide), 2 ** wide)
            self.assertEqual(count_stairs(2, wide), 2 * 3 ** wide - 2 ** wide)
            self.assertEqual(covering(high=1, wide=wide), 1)

    def test_refused(self):
        for call in (covering, count_stairs, crowded):
            for wrong in WRONG_INTEGERS + (13,):
                self.refuses(BadWant("high"), call, wrong, wrong)
                self.refuses(BadWant("wide"), call, 12, wrong)


if __name__ == "__main__":
    unittest.main()
