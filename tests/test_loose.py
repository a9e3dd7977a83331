import random
import unittest

from helpers import WRONG_INTEGERS, Case, lot_pairs_of, plain_good, plain_minor
from minusless.blanks import PartTable
from minusless.errors import BadBlank, BadLot, OtherSize
from minusless.finding import paper_for
from minusless.loose import holds_against, is_loose, loose_value, no_filling
from minusless.tables import Table
from parthelpers import (blanks_of, fill_with, numbers_from, parts_nearly_good, parts_of_any, parts_of_good, plain_fillable,
                         plain_paper, rows_with_blanks)
from stairhelpers import good_on, random_stair

NOUGHT, ONE = (0, 1), (1, 1)
PARTS = (parts_of_any(200, seed=111) + parts_nearly_good(60, seed=115)
         + [part for part, _ in parts_of_good(60, seed=112)])
RNG = random.Random(113)
EXAMPLE = PartTable([[None, ONE], [ONE, NOUGHT]])


def plain_loose(part, rows, columns):
    """Whether the minor is loose, and its value if it is."""
    table = fill_with(part, [NOUGHT] * len(blanks_of(part)))
    blank = [(row, column) for row in rows for column in columns if part.rows[row][column] is None]
    if blank:
        if blank != [(rows[0], columns[0])] or plain_minor(table, rows[1:], columns[1:]) != NOUGHT:
            return (False, None)
    return (True, plain_minor(table, rows, columns))


class Loose(Case):
    def test_all_lots(self):
        kinds = {}
        for part in PARTS:
            tables = [fill_with(part, numbers_from(RNG, len(blanks_of(part)))) for _ in range(4)]
            for rows, columns in lot_pairs_of(part.high, part.wide, least=0):
                wanted, value = plain_loose(part, rows, columns)
                self.assertIs(is_loose(part, list(rows), list(columns)), wanted)
                self.assertIs(is_loose(part=part, rows=rows, columns=columns), wanted)
                many = sum(part.rows[row][column] is None for row in rows for column in columns)
                kinds[min(many, 2), wanted] = kinds.get((min(many, 2), wanted), 0) + 1
                if not wanted:
                    self.refuses(BadBlank(rows[0], columns[0]), loose_value, part, list(rows), list(columns))
                    self.assertIs(holds_against(part, rows, columns), False)
                    continue
                self.assertEqual(loose_value(part, list(rows), list(columns)), value)
                self.assertEqual(loose_value(part=part, rows=rows, columns=columns), value)
                self.assertIs(holds_against(part, list(rows), list(columns)), value[0] < 0)
                self.assertIs(holds_against(part=part, rows=rows, columns=columns), value[0] < 0)
                self.assertTrue(all(plain_minor(table, rows, columns) == value for table in tables))
        self.assertEqual(set(kinds), {(0, True), (1, True), (1, False), (2, False)})
        self.assertGreater(min(kinds.values()), 30)

    def test_empty_lots(self):
        self.assertIs(is_loose(EXAMPLE, [], []), True)
        self.assertEqual(loose_value(EXAMPLE, (), ()), ONE)
        self.assertIs(holds_against(EXAMPLE, (), ()), False)

    def test_a_blank_at_the_corner(self):
        self.assertIs(is_loose(EXAMPLE, (0, 1), (0, 1)), True)
        self.assertEqual(loose_value(EXAMPLE, (0, 1), (0, 1)), (-1, 1))
        part = PartTable([[None, ONE], [ONE, ONE]])
        self.assertIs(is_loose(part, (0, 1), (0, 1)), False)
        self.assertIs(is_loose(part, (0,), (0,)), False)
        self.refuses(BadBlank(0, 0), loose_value, part, [0, 1], [0, 1])
        # A blank that is not at the first row and the first column.
        part = PartTable([[None, None, ONE], [None, NOUGHT, NOUGHT], [ONE, NOUGHT, NOUGHT]])
        self.assertIs(is_loose(part, (0, 2), (0, 1)), False)
        self.refuses(BadBlank(0, 0), loose_value, part, (0, 2), (0, 1))
        self.assertIs(is_loose(part, (1, 2), (0, 1)), True)

    def test_errors(self):
        for call in (is_loose, loose_value, holds_against):
            for wrong in (None, 0, "0", {0: 0}):
                self.refuses(BadLot(-1), call, EXAMPLE, wrong, None)
                self.refuses(BadLot(-1), call, EXAMPLE, [0], wrong)
            for wrong in WRONG_INTEGERS + (2,):
                self.refuses(BadLot(0), call, EXAMPLE, [wrong], None)
                self.refuses(BadLot(0), call, EXAMPLE, [0], [wrong])
            self.refuses(BadLot(1), call, EXAMPLE, [0, 0], [5])
            self.refuses(OtherSize(1, 2), call, EXAMPLE, [0], [0, 1])
            self.refuses(OtherSize(1, 0), call, EXAMPLE, [0], [])


class NoFilling(Case):
    def test_papers(self):
        kinds = {1: 0, 2: 0, 3: 0}
        for part in PARTS:
            found = no_filling(part)
            self.assertEqual(no_filling(part=part), found)
            self.assertEqual(found, plain_paper(part))
            self.assertIs(found is None, plain_fillable(part))
            if found is not None:
                kinds[len(found[0])] += 1
                self.assertIs(holds_against(part, *found), True)
            # Nothing holds against a fillable one.
            elif plain_fillable(part):
                self.assertFalse(any(holds_against(part, rows, columns)
                                     for rows, columns in lot_pairs_of(part.high, part.wide)))
        self.assertGreater(min(kinds.values()), 3)

    def test_the_example(self):
        self.assertEqual(no_filling(EXAMPLE), ((0, 1), (0, 1)))
        whole = [pair for pair in lot_pairs_of(2, 2) if not any(EXAMPLE.rows[row][column] is None for row in pair[0]
                                                                for column in pair[1])]
        self.assertTrue(all(loose_value(EXAMPLE, *pair)[0] >= 0 for pair in whole))
        self.assertIs(holds_against(EXAMPLE, (0, 1), (0, 1)), True)

    def test_below_nought_and_between(self):
        self.assertEqual(no_filling(PartTable([[None, (-1, 1)]])), ((0,), (1,)))
        self.assertEqual(no_filling(PartTable([[None, (-1, 1), (-2, 1)]])), ((0,), (2,)))
        # The tree's order: the last row first.
        self.assertEqual(no_filling(PartTable([[None, (-1, 1)], [(-1, 1), ONE]])), ((1,), (0,)))
        self.assertEqual(no_filling(PartTable([[None, None, ONE], [ONE, NOUGHT, NOUGHT]])), ((0, 1), (0, 2)))
        self.assertEqual(no_filling(PartTable([[None, ONE, ONE], [ONE, NOUGHT, NOUGHT]])), ((0, 1), (0, 2)))

    def test_without_blanks(self):
        for part in PARTS:
            table = fill_with(part, numbers_from(RNG, len(blanks_of(part))))
            found = no_filling(PartTable(table.rows))
            if plain_good(table):
                self.assertIsNone(found)
            else:
                paper = paper_for(table)
                self.assertEqual(found, (paper.rows, paper.columns))

    def test_twelve(self):
        rng = random.Random(114)
        table = good_on(rng, random_stair(rng, 12, 12, 0.7))
        shape = (11, 11, 9, 9, 8, 6, 5, 3, 3, 2, 0, 0)
        self.assertIsNone(no_filling(PartTable(rows_with_blanks(table, shape))))
        for row in range(12):
            broken = Table(table.rows).raised(row, 11, (-10 ** 6, 1))
            found = no_filling(PartTable(rows_with_blanks(broken, shape)))
            self.assertIs(holds_against(PartTable(rows_with_blanks(broken, shape)), *found), True)


if __name__ == "__main__":
    unittest.main()
