import random
import unittest
from fractions import Fraction

from corehelpers import is_full
from helpers import Case, frac, num, random_number, table_of, tables_of_any_sign
from minusless.errors import BadNumber, BadTable, OtherSize, TooMany
from minusless.passages import down_from, passage, row_passage, up
from minusless.tables import Table
from minusless.unmaking import unmade

NOUGHT, ONE = (0, 1), (1, 1)
WRONG_ROWS = ((None, -1), (1, -1), ("", -1), ({}, -1), ([NOUGHT, 1], 1), ([None, 1], 0), ([(2, 4)], 0),
              ((ONE, ONE, ONE, (1, 0)), 3), ([[1, 1]], 0), ([(True, 1)], 0))
CORES = tables_of_any_sign(120, most=4, seed=11)


def falls(core, column):
    """The falls from the column, each as (column below which it goes out, weight), one move at a time."""
    found = []
    waiting = [((0, column), "down", Fraction(1))]
    while waiting:
        (at, place), heading, weight = waiting.pop()
        if at == core.high:
            found.append((place, weight))
            continue
        if place < 0:
            continue
        full = is_full(core, (at, place))
        number = frac(core.rows[at][place])
        left, down = (at, place - 1), (at + 1, place)
        if heading == "down":
            waiting.append((down, "down", weight))
            if full:
                waiting.append((left, "left", weight / number))
        else:
            waiting.append((left, "left", weight))
            if full:
                waiting.append((down, "down", weight * number))
    return found


def plain_passage(core):
    rows = [[Fraction(0)] * core.wide for _ in range(core.wide)]
    for column in range(core.wide):
        for stop, weight in falls(core, column):
            rows[column][stop] += weight
    return table_of(rows)


def random_row(rng, wide):
    return [random_number(rng) for _ in range(wide)]


class Passages(Case):
    def test_falls(self):
        for core in CORES:
            found = passage(core)
            self.assertEqual(found, plain_passage(core))
            self.assertEqual(passage(core=core), found)
            for row in range(core.wide):
                for column in range(row, core.wide):
                    self.assertEqual(found.entry(row, column), ONE if row == column else NOUGHT)

    def test_row_passage(self):
        rng = random.Random(12)
        for core in CORES:
            row = core.rows[0]
            self.assertEqual(row_passage(list(row)), passage(Table([row])))
            self.assertEqual(row_passage(row=row), plain_passage(Table([row])))
        for wide in (1, 2, 5, 12):
            row = random_row(rng, wide)
            found = row_passage(row)
            for start in range(wide):
                for stop in range(start):
                    wanted = num(frac(row[stop]) / frac(row[start])) if row[start] != NOUGHT else NOUGHT
                    self.assertEqual(found.entry(start, stop), wanted)
        self.assertEqual(row_passage([NOUGHT] * 12), Table.unit(12))
        self.assertEqual(row_passage([(2, 1), NOUGHT, (-3, 1)]).words(), "1 0 0\n0 1 0\n-2/3 0 1")

    def test_errors_of_row_passage(self):
        for wrong, place in WRONG_ROWS:
            self.refuses(BadNumber(place), row_passage, wrong)
        self.refuses(BadTable(-1), row_passage, [])
        self.refuses(BadTable(-1), row_passage, ())
        self.refuses(TooMany(12), row_passage, [ONE] * 13)
        self.refuses(BadNumber(12), row_passage, [ONE] * 12 + [1])

    def test_products(self):
        rng = random.Random(13)
        for core in CORES:
            row = tuple(random_row(rng, core.wide))
            self.assertEqual(passage(Table((row,) + core.rows)), row_passage(row) * passage(core))
        core = Table([random_row(rng, 12) for _ in range(12)])
        self.assertEqual(passage(core), row_passage(core.rows[0]) * passage(Table(core.rows[1:])))


class Ups(Case):
    def check_pair(self, table, row):
        found = up(table, list(row))
        self.assertIs(type(found), tuple)
        self.assertEqual(up(table=table, row=row), found)
        self.assertEqual(down_from(table, list(found)), tuple(row))
        other = down_from(table=table, row=row)
        self.assertIs(type(other), tuple)
        self.assertEqual(up(table, other), tuple(row))
        rows = passage(unmade(table)).rows
        wanted = [sum(frac(row[j]) * frac(rows[j][k]) for j in range(table.wide)) for k in range(table.wide)]
        self.assertEqual(other, tuple(num(value) for value in wanted))
        if table.high < 12:
            self.assertEqual(unmade(Table((tuple(row),) + table.rows)), Table((found,) + unmade(table).rows))

    def test_any_table(self):
        rng = random.Random(14)
        for table in CORES:
            for _ in range(3):
                self.check_pair(table, random_row(rng, table.wide))

    def test_twelve_rows(self):
        rng = random.Random(15)
        for wide in (1, 4, 12):
            self.check_pair(Table([random_row(rng, wide) for _ in range(12)]), random_row(rng, wide))

    def test_errors(self):
        table = Table.read("1 2 3\n4 5 6")
        for call in (up, down_from):
            for wrong, place in WRONG_ROWS:
                self.refuses(BadNumber(place), call, table, wrong)
            for many in (0, 1, 2, 4, 13):
                self.refuses(OtherSize(many, 3), call, table, [ONE] * many)


if __name__ == "__main__":
    unittest.main()
