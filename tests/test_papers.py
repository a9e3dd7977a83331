import random
import unittest

from helpers import Case, lot_pairs_of, num, plain_good, plain_minor, tables_of_any_sign
from minusless.errors import BadLot, OtherSize
from minusless.papers import BadPaper, GoodPaper, Paper
from minusless.making import made
from minusless.tables import Table
from minusless.unmaking import unmade
from stairhelpers import STAIRS, good_on, random_stairs, good_tables_on

ONE = (1, 1)
GOOD, BAD = Table.read("1 1\n1 2"), Table.read("1 2 0\n3 4 0")
# Values of other kinds, to which no paper is equal.
OTHERS = (None, 0, "paper", (), GOOD, object())


class Papers(Case):
    def test_the_base(self):
        for table in (GOOD, BAD):
            paper = Paper(table)
            self.assertEqual((paper.KIND, paper.table, paper.size()), ("paper", table, 0))
            self.assertIs(paper.holds(), False)
        self.assertEqual(Paper(table=Table.nought(3, 4)).about(), "about 3 x 4")
        self.assertEqual(Paper.KIND, "paper")

    def test_equality_of_the_base(self):
        self.assertTrue(Paper(GOOD) == Paper(Table(list(GOOD.rows))))
        self.assertFalse(Paper(GOOD) == Paper(BAD))
        self.assertTrue(Paper(GOOD) != Paper(BAD))

    def test_papers_of_unlike_classes(self):
        papers = [Paper(BAD), GoodPaper(BAD, BAD), BadPaper(BAD, [0], [0])]
        for at, one in enumerate(papers):
            for place, other in enumerate(papers):
                self.assertEqual(one == other, at == place)
            for value in OTHERS:
                self.assertFalse(one == value)
                self.assertTrue(one != value)

    def test_papers_of_a_class_below(self):
        class Other(Paper):
            KIND = "other"

        self.assertFalse(Paper(GOOD) == Other(GOOD))
        self.assertFalse(Other(GOOD) == Paper(GOOD))
        self.assertTrue(Other(GOOD) == Other(GOOD))

    def test_each_class_has_the_methods(self):
        for kind in (GoodPaper, BadPaper):
            self.assertTrue(issubclass(kind, Paper))
            for name in ("holds", "about", "size", "__eq__"):
                self.assertIn(name, vars(kind))


class GoodPapers(Case):
    def test_holds(self):
        for table in good_tables_on(STAIRS[::3]) + good_tables_on(random_stairs(40)):
            core = unmade(table)
            paper = GoodPaper(table, core)
            self.assertIs(paper.holds(), True)
            self.assertEqual((paper.KIND, paper.table, paper.core), ("good", table, core))
            self.assertEqual(paper.size(), sum(number != (0, 1) for row in core for number in row))
            self.assertEqual(paper.about(), f"about {table.high} x {table.wide}: good")

    def test_one_number_changed(self):
        rng = random.Random(1)
        for stair in STAIRS[::5]:
            core = unmade(good_on(rng, stair))
            for row in range(core.high):
                for column in range(core.wide):
                    other = core.raised(row, column, rng.choice(((1, 2), (-1, 3), ONE)))
                    self.assertIs(GoodPaper(made(core), other).holds(), False)

    def test_tables_that_are_not_good(self):
        many = 0
        for table in tables_of_any_sign(60, seed=121):
            good = plain_good(table)
            self.assertIs(GoodPaper(table, unmade(table)).holds(), good)
            many += not good
        self.assertGreater(many, 40)

    def test_what_does_not_hold(self):
        # A number below 0, no stair, and a core of another table: each is refused alone.
        for core in ("-1 1\n1 1", "0 1\n1 0"):
            self.assertIs(GoodPaper(made(Table.read(core)), Table.read(core)).holds(), False)
        self.assertIs(GoodPaper(GOOD, GOOD).holds(), False)
        self.assertIs(GoodPaper(table=Table.nought(2, 3), core=Table.nought(2, 3)).holds(), True)
        self.assertEqual(GoodPaper(GOOD, Table.nought(2, 2)).size(), 0)
        self.assertEqual(GoodPaper(GOOD, Table.read("-1 0\n0 2")).size(), 2)

    def test_equality(self):
        core = unmade(GOOD)
        paper = GoodPaper(GOOD, core)
        self.assertTrue(paper == GoodPaper(Table(list(GOOD.rows)), Table(list(core.rows))))
        self.assertFalse(paper == GoodPaper(GOOD, GOOD))
        self.assertFalse(paper == GoodPaper(core, core))
        self.assertTrue(paper != GoodPaper(core, core))

    def test_errors_in_order(self):
        self.refuses(OtherSize(2, 1), GoodPaper, GOOD, Table.nought(1, 3))
        self.refuses(OtherSize(3, 2), GoodPaper, BAD, GOOD)


class BadPapers(Case):
    def test_against_minors(self):
        held = {True: 0, False: 0}
        for table in tables_of_any_sign(40, 3, seed=122):
            for rows, columns in lot_pairs_of(table.high, table.wide):
                paper = BadPaper(table, list(rows), list(columns))
                value = plain_minor(table, rows, columns)
                self.assertEqual(paper.value(), value)
                self.assertIs(paper.holds(), value[0] < 0)
                self.assertEqual((paper.KIND, paper.table, paper.rows, paper.columns), ("bad", table, rows, columns))
                self.assertEqual(paper.size(), len(rows))
                self.assertEqual(paper.about(), f"about {table.high} x {table.wide}: not good")
                held[value[0] < 0] += 1
        self.assertGreater(min(held.values()), 60)

    def test_nought_does_not_hold(self):
        self.assertIs(BadPaper(Table.read("1 1\n1 1"), (0, 1), (0, 1)).holds(), False)
        self.assertIs(BadPaper(table=BAD, rows=(0, 1), columns=(0, 1)).holds(), True)

    def test_the_lots_are_kept(self):
        rows, columns = [0, 1], [0, 1]
        paper = BadPaper(BAD, rows, columns)
        rows.append(5)
        columns.clear()
        self.assertEqual((paper.rows, paper.columns), ((0, 1), (0, 1)))

    def test_equality(self):
        paper = BadPaper(BAD, [0, 1], [0, 1])
        self.assertTrue(paper == BadPaper(Table(list(BAD.rows)), (0, 1), (0, 1)))
        self.assertFalse(paper == BadPaper(BAD, (0, 1), (0, 2)))
        self.assertFalse(BadPaper(BAD, (0,), (0,)) == BadPaper(BAD, (1,), (0,)))
        self.assertFalse(paper == BadPaper(BAD.raised(0, 0, num(1)), (0, 1), (0, 1)))
        self.assertTrue(paper != BadPaper(BAD, (0, 1), (1, 2)))

    def test_errors_in_order(self):
        for wrong in (None, 1, "01", {0: 1}):
            self.refuses(BadLot(-1), BadPaper, BAD, wrong, [9])
            self.refuses(BadLot(-1), BadPaper, BAD, [0], wrong)
        self.refuses(BadLot(1), BadPaper, BAD, [0, 2], [9])
        self.refuses(BadLot(0), BadPaper, BAD, [], [3])
        self.refuses(BadLot(2), BadPaper, BAD, [0], [0, 1, 1])
        self.refuses(BadLot(0), BadPaper, BAD, [True], [0])
        self.refuses(OtherSize(0, 1), BadPaper, BAD, [], [0])
        self.refuses(OtherSize(2, 1), BadPaper, BAD, [0, 1], [0])
        self.refuses(BadLot(-1), BadPaper, BAD, [], ())


if __name__ == "__main__":
    unittest.main()
