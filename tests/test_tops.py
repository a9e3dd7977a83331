import random
import unittest
from fractions import Fraction

from helpers import Case, frac, good_tables, num, plain_good
from minusless.errors import BadNumber, NotGood, OtherSize
from minusless.mainrule import core_fault
from minusless.passages import passage, up
from minusless.stairs import Stair
from minusless.tables import Table
from minusless.tops import bottom_edges, may_bottom, may_left, may_right, may_top, top_edges, top_numbers
from minusless.unmaking import unmade
from stairhelpers import STAIRS, good_on, good_tables_on
from test_passages import WRONG_ROWS

NOUGHT, ONE = (0, 1), (1, 1)
GOOD = good_tables_on(STAIRS[::5], seed=21) + good_tables(40, most=3, seed=22)


def numbers_near(rng, many):
    return [num(Fraction(rng.choice((0, 0, 1, 1, 2, 3, -1)), rng.randint(1, 2))) for _ in range(many)]


def mixed(rng, rows):
    """A sum of some of the rows, or any row."""
    if rng.random() < 0.4:
        return numbers_near(rng, len(rows[0]))
    total = [Fraction(0)] * len(rows[0])
    for row in rows:
        factor = rng.choice((0, 0, 1, 2, Fraction(1, 2)))
        total = [value + factor * frac(number) for value, number in zip(total, row)]
    return [num(value) for value in total]


def as_columns(table):
    return list(zip(*table.rows))


class Sides(Case):
    def test_rows(self):
        rng = random.Random(23)
        found = {True: 0, False: 0}
        for table in GOOD:
            for _ in range(8):
                row = mixed(rng, table.rows + tuple(row for _, row in top_edges(table)))
                wanted = plain_good(Table((tuple(row),) + table.rows))
                self.assertIs(may_top(table, list(row)), wanted)
                self.assertIs(may_top(table=table, row=tuple(row)), wanted)
                found[wanted] += 1
                row = mixed(rng, table.rows + tuple(row for _, row in bottom_edges(table)))
                wanted = plain_good(Table(table.rows + (tuple(row),)))
                self.assertIs(may_bottom(table, list(row)), wanted)
                self.assertIs(may_bottom(table=table, row=tuple(row)), wanted)
                found[wanted] += 1
        self.assertGreater(min(found.values()), 200)

    def test_columns(self):
        rng = random.Random(24)
        found = {True: 0, False: 0}
        for table in GOOD:
            for _ in range(8):
                column = mixed(rng, as_columns(table) + [row for _, row in top_edges(~table)])
                wanted = plain_good(table.with_column(0, column))
                self.assertIs(may_left(table, list(column)), wanted)
                self.assertIs(may_left(table=table, column=tuple(column)), wanted)
                found[wanted] += 1
                column = mixed(rng, as_columns(table) + [row for _, row in bottom_edges(~table)])
                wanted = plain_good(table.with_column(table.wide, column))
                self.assertIs(may_right(table, list(column)), wanted)
                self.assertIs(may_right(table=table, column=tuple(column)), wanted)
                found[wanted] += 1
        self.assertGreater(min(found.values()), 200)

    def test_each_condition_alone(self):
        table = Table.read("1 0")
        self.assertIs(may_top(table, [ONE, NOUGHT]), True)
        self.assertIs(may_top(table, [ONE, ONE]), False)
        self.assertIs(may_top(table, [(-1, 1), NOUGHT]), False)
        self.assertIs(may_bottom(table, [NOUGHT, ONE]), True)
        self.assertIs(may_left(Table.read("1\n0"), [NOUGHT, ONE]), False)
        self.assertIs(may_right(Table.read("1\n0"), [NOUGHT, ONE]), True)

    def test_twelve(self):
        rng = random.Random(25)
        table = good_on(rng, Stair.all_full(12, 12))
        column, row = table.rows[0], as_columns(table)[0]
        self.assertTrue(may_top(table, table.rows[0]))
        self.assertTrue(may_bottom(table, table.rows[-1]))
        self.assertTrue(may_left(table, as_columns(table)[0]))
        self.assertTrue(may_right(table, as_columns(table)[-1]))
        self.assertFalse(may_top(table, [NOUGHT] + [ONE] * 11))
        self.assertFalse(may_bottom(table, column[::-1]))
        self.assertFalse(may_left(table, row[::-1]))
        self.assertFalse(may_right(table, row))
        self.assertEqual(len(top_edges(table)), 12)
        self.assertEqual(len(bottom_edges(table)), 12)


class Edges(Case):
    def check_edges(self, edges, table, may):
        self.assertEqual([column for column, _ in edges], sorted({column for column, _ in edges}))
        rows = [row for _, row in edges]
        self.assertTrue(all(may(table, row) for row in rows))
        self.assertTrue(all(len(row) == table.wide for row in rows))

    def test_top_edges(self):
        rng = random.Random(26)
        for table in GOOD:
            edges = top_edges(table)
            self.assertEqual(top_edges(table=table), edges)
            self.check_edges(edges, table, may_top)
            barred = Stair.of_core(unmade(table)).barred()
            rows = passage(unmade(table)).rows
            self.assertEqual(edges, tuple((c, rows[c]) for c in range(table.wide) if c not in barred))
            for _ in range(5):
                row = mixed(rng, table.rows + tuple(row for _, row in edges))
                found = top_numbers(table, list(row))
                self.assertEqual(top_numbers(table=table, row=row), found)
                if not may_top(table, row):
                    self.assertIsNone(found)
                    continue
                self.assertEqual(found, tuple(up(table, row)[column] for column, _ in edges))
                total = [sum((frac(factor) * frac(edge[place]) for factor, (_, edge) in zip(found, edges)), Fraction(0))
                         for place in range(table.wide)]
                self.assertEqual([num(value) for value in total], list(row))
                self.assertTrue(all(number[0] >= 0 for number in found))

    def test_bottom_edges(self):
        for table in GOOD:
            edges = bottom_edges(table)
            self.assertEqual(bottom_edges(table=table), edges)
            self.check_edges(edges, table, may_bottom)
            wanted = sorted((table.wide - 1 - column, row[::-1]) for column, row in top_edges(table.half_turned()))
            self.assertEqual(edges, tuple(wanted))

    def test_no_edge_is_a_sum_of_the_others(self):
        for table in GOOD[:60]:
            for at, (_, edge) in enumerate(top_edges(table)):
                wanted = [NOUGHT] * len(top_edges(table))
                wanted[at] = ONE
                self.assertEqual(top_numbers(table, edge), tuple(wanted))


class Errors(Case):
    def test_rows(self):
        table, bad = Table.read("1 1 1\n1 2 3"), Table.read("1 2 0\n2 1 0")
        for call in (may_top, may_bottom, top_numbers):
            for wrong, place in WRONG_ROWS:
                self.refuses(BadNumber(place), call, table, wrong)
                self.refuses(BadNumber(place), call, bad, wrong)
            for many in (0, 2, 4):
                self.refuses(OtherSize(many, 3), call, table, [ONE] * many)
                self.refuses(OtherSize(many, 3), call, bad, [ONE] * many)

    def test_columns(self):
        table, bad = Table.read("1 1 1\n1 2 3"), Table.read("1 2 0\n2 1 0")
        for call in (may_left, may_right):
            for wrong, place in WRONG_ROWS:
                self.refuses(BadNumber(place), call, table, wrong)
                self.refuses(BadNumber(place), call, bad, wrong)
            for many in (0, 1, 3):
                self.refuses(OtherSize(many, 2), call, table, [ONE] * many)
                self.refuses(OtherSize(many, 2), call, bad, [ONE] * many)

    def test_the_box_is_of_the_core_as_passed_in(self):
        for words in ("1 2 0\n2 1 0", "1 -1\n1 1\n2 2", "0 1 0\n1 0 0", "-1 0\n0 1", "1 0\n0 -1", "0 0 1\n1 1 0\n1 1 1"):
            bad = Table.read(words)
            row, column = core_fault(unmade(bad))
            for call in (may_top, may_bottom, top_numbers):
                self.refuses(NotGood(row, column), call, bad, [ONE] * bad.wide)
            for call in (may_left, may_right):
                self.refuses(NotGood(row, column), call, bad, [ONE] * bad.high)
            for call in (top_edges, bottom_edges):
                self.refuses(NotGood(row, column), call, bad)


if __name__ == "__main__":
    unittest.main()
