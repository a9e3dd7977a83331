import random
import unittest

from helpers import Case, lot_pairs_of, plain_good, plain_minor, sizes, tables_of_any_sign
from minusless.errors import BadBox, BadLot, OtherSize, TooMany
from minusless.meanings import is_all_above_plainly, nought_minors
from minusless.noughts import is_nought, more_noughts, nought_entries, noughts_of, why_nought
from minusless.stairs import Stair, read_stair
from minusless.tables import Table
from stairhelpers import BOXES_OUTSIDE, STAIRS, STAIRS_OF, good_on, good_tables_on, random_stairs

SOME = STAIRS[::3] + random_stairs(25, 5, seed=4)


class Noughts(Case):
    def test_against_tables_of_the_cell(self):
        rng = random.Random(1)
        for stair in SOME:
            noughts = noughts_of(stair)
            for _ in range(2):
                table = good_on(rng, stair)
                self.assertEqual(nought_minors(table), noughts)
            for rows, columns in lot_pairs_of(stair.high, stair.wide):
                self.assertIs(is_nought(stair, list(rows), list(columns)), (rows, columns) in noughts)
            self.assertEqual(noughts == (), stair.many == stair.high * stair.wide)
            self.assertEqual(is_all_above_plainly(table), noughts == ())
            self.assertEqual(nought_entries(stair),
                             tuple((rows[0], columns[0]) for rows, columns in noughts if len(rows) == 1))

    def test_in_the_order_of_the_meaning(self):
        for stair in (Stair.all_empty(3, 2), Stair.all_empty(2, 4)):
            self.assertEqual(noughts_of(stair=stair), tuple(lot_pairs_of(stair.high, stair.wide)))

    def test_the_empty_minor_is_none(self):
        for stair in (Stair.all_full(2, 2), Stair.all_empty(2, 2)):
            self.assertIs(is_nought(stair, [], ()), False)
            self.assertNotIn(((), ()), noughts_of(stair))

    def test_five_and_six(self):
        for stair in (Stair.all_full(6, 1), Stair.all_full(1, 6)):
            self.refuses(TooMany(5), noughts_of, stair)
            self.refuses(TooMany(5), more_noughts, stair, stair)
            self.assertEqual(nought_entries(stair), ())
            self.assertIs(is_nought(stair, [0], [0]), False)
        self.assertEqual(noughts_of(Stair.all_full(5, 5)), ())
        self.assertIs(more_noughts(Stair.all_full(5, 5), Stair.all_full(5, 5)), True)

    def test_twelve(self):
        stair = Stair([[int(row == column) for column in range(12)] for row in range(12)])
        self.assertEqual(len(nought_entries(stair=stair)), 132)
        self.assertIs(is_nought(stair=stair, rows=[0, 3], columns=[0, 4]), True)

    def test_errors_of_is_nought(self):
        stair = Stair.all_full(2, 3)
        self.refuses(BadLot(-1), is_nought, stair, None, [9])
        self.refuses(BadLot(1), is_nought, stair, [0, 2], [9])
        self.refuses(BadLot(0), is_nought, stair, [], [3])
        self.refuses(OtherSize(1, 2), is_nought, stair, [0], [0, 1])

    def test_turned(self):
        rng = random.Random(2)
        for stair in SOME[::2]:
            noughts = noughts_of(stair)
            self.assertEqual(sorted((columns, rows) for rows, columns in noughts), sorted(noughts_of(~stair)))
            half = good_on(rng, stair).half_turned()
            self.assertTrue(plain_good(half) if stair.high < 5 and stair.wide < 5 else True)
            found = [(tuple(stair.high - 1 - row for row in rows[::-1]),
                      tuple(stair.wide - 1 - column for column in columns[::-1])) for rows, columns in noughts]
            self.assertEqual(sorted(found), sorted(nought_minors(half)))


class Stairs(Case):
    def test_same_noughts_exactly_if_same_stair(self):
        for high, wide in sizes(3):
            stairs = STAIRS_OF[high, wide]
            self.assertEqual(len({noughts_of(stair) for stair in stairs}), len(stairs))

    def test_more_noughts(self):
        rng = random.Random(3)
        held = {True: 0, False: 0}
        for stairs in STAIRS_OF.values():
            for one in rng.sample(stairs, min(len(stairs), 14)):
                for other in rng.sample(stairs, min(len(stairs), 14)):
                    wanted = set(noughts_of(other)) <= set(noughts_of(one))
                    self.assertIs(more_noughts(one, other), wanted)
                    if one.inside(other):
                        self.assertIs(more_noughts(one, other), True)
                    held[wanted] += 1
        self.assertGreater(min(held.values()), 200)

    def test_the_converse_fails(self):
        lacking, alone = read_stair(".#\n##"), read_stair("#.\n..")
        self.assertEqual(len(noughts_of(lacking)), 1)
        self.assertIs(more_noughts(one=alone, other=lacking), True)
        self.assertIs(alone.inside(lacking), False)

    def test_errors_in_order(self):
        self.refuses(OtherSize(7, 2), more_noughts, Stair.all_full(7, 7), Stair.all_full(2, 3))
        self.refuses(OtherSize(7, 3), more_noughts, Stair.all_full(2, 7), Stair.all_full(2, 3))


class WhyNought(Case):
    def test_each_word(self):
        for words, row, column, wanted in (
                ("1 0\n0 1", 0, 0, "full"), ("1 0\n0 1", 0, 1, "above"), ("1 0\n0 1", 1, 0, "below"),
                ("0 0\n1 1", 0, 1, "row"), ("0 1\n0 1", 0, 0, "column"), ("-1 0\n0 1", 0, 0, "full"),
                # What comes first of several blocks.
                ("0 0\n0 1", 0, 0, "row"), ("0 0\n0 0", 1, 1, "row"), ("1 0\n1 0", 1, 1, "column"),
                ("1 0 1\n0 0 1", 0, 1, "column"), ("1 1 0\n0 0 0\n1 1 0", 1, 1, "row"),
                ("1 0 0\n0 0 1", 0, 1, "column"), ("1 0 0\n0 0 1\n0 1 1", 0, 1, "above"),
                ("1 1 0\n0 0 1\n0 0 1", 1, 1, "below"), ("1 1 0\n1 0 0\n1 1 1", 1, 1, "none"),
                ("0 1\n1 0", 0, 0, "none"), ("0 1\n1 0", 1, 1, "none"),
                ("1 0 0\n1 0 0\n0 0 1", 2, 1, "column"), ("1 1 0 0\n0 0 0 0\n0 0 1 1", 1, 2, "row")):
            self.assertEqual(why_nought(Table.read(words), row, column), wanted, (words, row, column))
        self.assertEqual(why_nought(table=Table.read("0"), row=0, column=0), "row")

    def test_against_the_words(self):
        words = {"full": 0, "row": 0, "column": 0, "below": 0, "above": 0, "none": 0}
        for table in tables_of_any_sign(150, 4, seed=141) + good_tables_on(STAIRS[::4], seed=5):
            good = table.high <= 3 and table.wide <= 3 and plain_good(table)
            for row in range(table.high):
                for column in range(table.wide):
                    wanted = self.plain(table, row, column)
                    self.assertEqual(why_nought(table, row, column), wanted)
                    words[wanted] += 1
                    self.assertFalse(good and wanted == "none")
        self.assertGreater(min(words.values()), 30)

    def plain(self, table, row, column):
        rows, columns = range(table.high), range(table.wide)
        if table.entry(row, column) != (0, 1):
            return "full"
        blocks = {"row": ([row], columns), "column": (rows, [column]),
                  "below": (rows[row:], columns[:column + 1]), "above": (rows[:row + 1], columns[column:])}
        for name, (high, wide) in blocks.items():
            if all(table.entry(at, place) == (0, 1) for at in high for place in wide):
                return name
        return "none"

    def test_no_minor_of_size_one_or_two_below(self):
        for table in tables_of_any_sign(400, 3, seed=142):
            small = [lots for lots in lot_pairs_of(table.high, table.wide) if len(lots[0]) <= 2]
            if all(plain_minor(table, *lots)[0] >= 0 for lots in small):
                for row in range(table.high):
                    for column in range(table.wide):
                        self.assertNotEqual(why_nought(table, row, column), "none")

    def test_wrong_boxes(self):
        for row, column in BOXES_OUTSIDE + ((2, 0), (0, 3)):
            self.refuses(BadBox(row, column), why_nought, Table.nought(2, 3), row, column)


if __name__ == "__main__":
    unittest.main()
