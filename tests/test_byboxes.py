import unittest
from math import factorial

from helpers import WRONG_INTEGERS, Case, all_patterns, plain_stair
from minusless.byboxes import covering_by_boxes, even_odd, stairs_by_boxes, turnable, turnable_by_boxes
from minusless.counting import count_stairs, covering
from minusless.errors import BadWant
from test_counting import SMALL, every_column


def by_boxes(patterns, length):
    found = [0] * length
    for rows in patterns:
        found[sum(map(sum, rows))] += 1
    return tuple(found)


class ByBoxes(Case):
    def test_against_all_stairs(self):
        for high, wide in SMALL:
            stairs = [rows for rows in all_patterns(high, wide) if plain_stair(rows)]
            length = high * wide + 1
            self.assertEqual(stairs_by_boxes(high, wide), by_boxes(stairs, length))
            covered = [rows for rows in stairs if every_column(rows, wide)]
            self.assertEqual(covering_by_boxes(high, wide), by_boxes(covered, length))
            counts = by_boxes(stairs, length)
            self.assertEqual(even_odd(high, wide), (sum(counts[::2]), sum(counts[1::2])))

    def test_without_rows_or_columns(self):
        for many in range(13):
            self.assertEqual((stairs_by_boxes(0, many), stairs_by_boxes(many, 0)), ((1,), (1,)))
            self.assertEqual((covering_by_boxes(0, many), covering_by_boxes(many, 0)), ((int(many == 0),), (1,)))
            self.assertEqual((even_odd(0, many), even_odd(many, 0)), ((1, 0), (1, 0)))

    def test_sums(self):
        for high, wide in ((1, 12), (12, 1), (4, 6), (7, 5), (12, 11), (12, 12)):
            counts = stairs_by_boxes(high=high, wide=wide)
            self.assertEqual((len(counts), sum(counts)), (high * wide + 1, count_stairs(high, wide)))
            covered = covering_by_boxes(high=high, wide=wide)
            self.assertEqual((len(covered), sum(covered)), (high * wide + 1, covering(high, wide)))
            self.assertEqual(counts, stairs_by_boxes(wide, high))
            self.assertEqual((counts[0], counts[1], counts[-1], counts[-2]), (1, high * wide, 1, high + wide - 1))

    def test_as_many_even_as_odd(self):
        for high in range(1, 13):
            for wide in (1, 2, 5, 12):
                even, odd = even_odd(high=high, wide=wide)
                self.assertEqual(even, odd)
                self.assertEqual(even + odd, count_stairs(high, wide))

    def test_refused(self):
        for call in (covering_by_boxes, stairs_by_boxes, even_odd):
            for wrong in WRONG_INTEGERS + (13,):
                self.refuses(BadWant("high"), call, wrong, wrong)
                self.refuses(BadWant("wide"), call, 12, wrong)


class Turnable(Case):
    def test_against_all_stairs(self):
        for size in range(5):
            full = [rows for rows in all_patterns(size, size)
                    if all(rows[at][at] for at in range(size)) and plain_stair(rows)]
            self.assertEqual(turnable(size), len(full))
            counts = by_boxes(full, size * size + 1)
            self.assertEqual(turnable_by_boxes(size), counts[size:])
            self.assertEqual(counts[:size], (0,) * size)

    def test_up_to_twelve(self):
        for size in range(13):
            self.assertEqual(turnable(size=size), factorial(size) ** 2)
            counts = turnable_by_boxes(size=size)
            self.assertEqual((len(counts), sum(counts)), (size * (size - 1) + 1 if size else 1, factorial(size) ** 2))
            self.assertEqual(counts, counts[::-1])
        self.assertEqual(turnable_by_boxes(3), (1, 4, 8, 10, 8, 4, 1))

    def test_refused(self):
        for call in (turnable, turnable_by_boxes):
            for wrong in WRONG_INTEGERS + (13,):
                self.refuses(BadWant("size"), call, wrong)


if __name__ == "__main__":
    unittest.main()
