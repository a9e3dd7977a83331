import random
import unittest
from fractions import Fraction

from helpers import WRONG_INTEGERS, Case, frac, good_tables, lot_pairs_of, num, plain_good, plain_minor, sizes
from minusless.errors import BadBox, NotGood, TooMany
from minusless.mainrule import core_fault, is_good
from minusless.passages import up
from minusless.raising import corner_low, endless, ending_minor, entry_stretch, first_emptied, top_stretch
from minusless.stairs import Stair
from minusless.tables import Table
from minusless.unmaking import unmade
from stairhelpers import BOXES_OUTSIDE, STAIRS, good_on, good_tables_on, random_stair

NOUGHT, ONE = (0, 1), (1, 1)
RNG = random.Random(31)
GOOD = (good_tables_on(STAIRS[::7], seed=31) + good_tables(30, most=4, seed=32)
        + [good_on(RNG, random_stair(RNG, high, wide, full)) for high, wide in sizes(4) for full in (0.5, 0.9)])
LARGE = [good_on(RNG, random_stair(RNG, high, wide, 0.8)) for high, wide in ((12, 12), (12, 3), (1, 12), (7, 5), (6, 9))]
BAD = [Table.read(words) for words in ("1 2\n2 1", "1 0\n0 -1", "0 1\n1 0", "-1")]


def boxes_of(table):
    return [(row, column) for row in range(table.high) for column in range(table.wide)]


def raised(table, row, column, value):
    return table.raised(row, column, num(value))


def plain_stretch(table, row, column):
    """The ends, and for each end the minors of the box that are 0 there and below 0 beyond it."""
    found = {}
    for rows, columns in lot_pairs_of(table.high, table.wide):
        if row in rows and column in columns:
            at_nought = frac(plain_minor(table, rows, columns))
            slope = frac(plain_minor(table.raised(row, column, ONE), rows, columns)) - at_nought
            if slope:
                found[rows, columns] = (slope > 0, -at_nought / slope)
    low = max(bound for rising, bound in found.values() if rising)
    high = min((bound for rising, bound in found.values() if not rising), default=None)
    lows = [lots for lots, told in found.items() if told == (True, low)]
    highs = [lots for lots, told in found.items() if told == (False, high)]
    return low, high, lows, highs


class Stretches(Case):
    def test_every_box(self):
        ended = {True: 0, False: 0}
        for table in GOOD:
            for row, column in boxes_of(table):
                low, high, lows, highs = plain_stretch(table, row, column)
                wanted = (num(low), None if high is None else num(high))
                self.assertEqual(entry_stretch(table, row, column), wanted)
                self.assertEqual(ending_minor(table, row, column), highs[0] if highs else None)
                self.assertEqual(ending_minor(table, row, column, lowest=False), highs[0] if highs else None)
                self.assertEqual(ending_minor(table, row, column, lowest=True), lows[0])
                self.assertIs(endless(table, row, column), high is None)
                ended[high is None] += 1
                self.assertTrue(low <= 0 and (high is None or high >= 0))
        self.assertGreater(min(ended.values()), 200)
        self.assertEqual(entry_stretch(table=Table.read("2"), row=0, column=0), ((-2, 1), None))
        self.assertEqual(ending_minor(table=Table.read("2"), row=0, column=0, lowest=True), ((0,), (0,)))

    def test_at_both_ends_and_beyond(self):
        rng = random.Random(33)
        for table in GOOD:
            for row, column in boxes_of(table):
                low, high = entry_stretch(table, row, column)
                low = frac(low)
                top = Fraction(7) if high is None else frac(high)
                for value in (low, low + Fraction(1, 9) * (top - low), top):
                    self.assertTrue(is_good(raised(table, row, column, value)))
                self.assertFalse(is_good(raised(table, row, column, low - Fraction(1, 1000))))
                if high is not None:
                    self.assertFalse(is_good(raised(table, row, column, top + Fraction(1, 1000))))
                if rng.random() < 0.1:
                    self.assertTrue(plain_good(raised(table, row, column, top)))
                    self.assertFalse(plain_good(raised(table, row, column, low - 1)))

    def test_errors(self):
        for call in (entry_stretch, ending_minor):
            for row, column in BOXES_OUTSIDE + ((3, 0), (0, 2)):
                self.refuses(BadBox(row, column), call, Table.nought(3, 2), row, column)
                self.refuses(BadBox(row, column), call, Table.read("0 -1\n0 0\n0 0"), row, column)
            self.refuses(BadBox(6, 0), call, Table.nought(6, 1), 6, 0)
            for high, wide in ((6, 1), (1, 6), (12, 12)):
                self.refuses(TooMany(5), call, Table.nought(high, wide).raised(0, 0, (-1, 1)), 0, 0)
            for bad in BAD:
                row, column = core_fault(unmade(bad))
                self.refuses(NotGood(row, column), call, bad, 0, 0)
        self.assertEqual(entry_stretch(Table.nought(5, 5), 2, 2), (NOUGHT, None))
        self.assertEqual(ending_minor(Table.nought(5, 5), 2, 2), None)
        self.assertEqual(entry_stretch(good_on(RNG, Stair.all_full(5, 5)), 0, 0)[1], None)


class TopRow(Case):
    def test_against_the_stretch_of_the_box(self):
        for table in GOOD:
            for column in range(table.wide):
                self.assertEqual(top_stretch(table, column), entry_stretch(table, 0, column))
                self.assertEqual(top_stretch(table=table, column=column), top_stretch(table, column))
                self.check_emptied(table, column)

    def check_emptied(self, table, column):
        high = top_stretch(table, column)[1]
        found = first_emptied(table, column)
        self.assertEqual(first_emptied(table=table, column=column), found)
        self.assertIs(found is None, high is None)
        if high is None:
            return
        added = [ONE if place == column else NOUGHT for place in range(table.wide)]
        below = Table(table.rows[1:]) if table.high > 1 else None
        moved = up(below, added) if below else tuple(added)
        barred = Stair.of_core(unmade(below)).barred() if below else ()
        row = unmade(table).rows[0]
        stopping = [j for j in range(table.wide) if frac(row[j]) + frac(high) * frac(moved[j]) == 0
                    and moved[j] != NOUGHT and (moved[j][0] < 0 or j in barred)]
        self.assertEqual(found, stopping[0])
        self.assertEqual(unmade(table.raised(0, column, high)).rows[0][found], NOUGHT)

    def test_large(self):
        for table in LARGE:
            for column in range(table.wide):
                low, high = top_stretch(table, column)
                self.check_emptied(table, column)
                self.assertIs(high is None, endless(table, 0, column))
                self.assertTrue(is_good(table.raised(0, column, low)))
                self.assertFalse(is_good(raised(table, 0, column, frac(low) - Fraction(1, 10 ** 9))))
                if high is None:
                    self.assertTrue(is_good(raised(table, 0, column, 10 ** 9)))
                else:
                    self.assertTrue(is_good(table.raised(0, column, high)))
                    self.assertFalse(is_good(raised(table, 0, column, frac(high) + Fraction(1, 10 ** 9))))

    def test_one_row(self):
        table = Table.read("2 0 1/3")
        self.assertEqual([top_stretch(table, column) for column in range(3)],
                         [((-2, 1), None), (NOUGHT, None), ((-1, 3), None)])
        self.assertEqual([first_emptied(table, column) for column in range(3)], [None] * 3)

    def test_errors(self):
        for call in (top_stretch, first_emptied):
            for wrong in WRONG_INTEGERS + (2, 12):
                self.refuses(BadBox(-1, wrong), call, Table.nought(12, 2), wrong)
                self.refuses(BadBox(-1, wrong), call, BAD[0], wrong)
            for bad in BAD:
                row, column = core_fault(unmade(bad))
                self.refuses(NotGood(row, column), call, bad, 0)


class Corners(Case):
    def test_corner_low(self):
        for table in GOOD:
            self.assertEqual(corner_low(table), entry_stretch(table, 0, 0)[0])
            self.assertEqual(corner_low(table=table), num(-frac(unmade(table).rows[0][0])))
            last = (table.high - 1, table.wide - 1)
            self.assertEqual(entry_stretch(table, *last), entry_stretch(table.half_turned(), 0, 0))
            self.assertEqual(entry_stretch(table, *last)[1], None)
        for table in LARGE:
            self.assertTrue(is_good(table.raised(0, 0, corner_low(table))))
            self.assertFalse(is_good(raised(table, 0, 0, frac(corner_low(table)) - Fraction(1, 10 ** 9))))

    def test_errors(self):
        for bad in BAD:
            row, column = core_fault(unmade(bad))
            self.refuses(NotGood(row, column), corner_low, bad)


class Endless(Case):
    def test_any_table(self):
        rng = random.Random(34)
        for _ in range(200):
            high, wide = rng.randint(1, 4), rng.randint(1, 4)
            table = Table([[rng.choice((NOUGHT, NOUGHT, NOUGHT, (-1, 2), ONE)) for _ in range(wide)]
                           for _ in range(high)])
            for row, column in boxes_of(table):
                above = any(table.rows[i][j] != NOUGHT for i in range(row) for j in range(column + 1, wide))
                below = any(table.rows[i][j] != NOUGHT for i in range(row + 1, high) for j in range(column))
                self.assertIs(endless(table, row, column), not above and not below)
        self.assertIs(endless(table=Table.unit(12), row=5, column=5), True)
        self.assertIs(endless(Table.unit(12), 5, 3), False)

    def test_errors(self):
        for row, column in BOXES_OUTSIDE + ((2, 0), (0, 2)):
            self.refuses(BadBox(row, column), endless, BAD[0], row, column)


if __name__ == "__main__":
    unittest.main()
