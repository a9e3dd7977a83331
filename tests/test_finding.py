import random
import unittest

from helpers import Case, frac, num, plain_good, plain_minor, random_table
from minusless.errors import BadWant, TooMany
from minusless.finding import bad_value, found_core, least_paper, paper_for
from minusless.mainrule import is_good
from minusless.making import made
from minusless.meanings import least_bad
from minusless.papers import BadPaper, GoodPaper
from minusless.tables import Table
from minusless.unmaking import unmade
from stairhelpers import STAIRS, good_on, plain_road, plain_tree, random_stairs, tree_order_of
from test_asking import TABLES


class Finding(Case):
    def test_paper_for(self):
        for table in TABLES:
            paper = paper_for(table)
            self.assertIs(paper.holds(), True)
            self.assertEqual(paper.table, table)
            good = plain_good(table)
            self.assertIsInstance(paper, GoodPaper if good else BadPaper)
            if good:
                self.assertEqual(paper.core, unmade(table))
                continue
            tree = plain_tree(table)
            self.assertEqual((paper.rows, paper.columns), tree.paper)
            self.assertIs(GoodPaper(table, unmade(table)).holds(), False)
            self.assertLessEqual(paper.size(), min(table.high, table.wide))
            if tree.end == "below":
                row, _ = tree_order_of(table.high, table.wide)[len(tree.answers) - 1]
                self.assertLessEqual(paper.size(), table.high - row)

    def test_corners_of_good_tables(self):
        rng = random.Random(1)
        for stair in STAIRS[::6] + random_stairs(20):
            table = good_on(rng, stair)
            core = paper_for(table=table).core
            for row in range(table.high):
                for column in range(table.wide):
                    self.assertEqual(paper_for(table.corner(row, column)).core, core.corner(row, column))

    def test_found_core(self):
        not_asked = 0
        for table in TABLES:
            asked = len(plain_tree(table).answers)
            boxes = tree_order_of(table.high, table.wide)
            core = unmade(table)
            found = found_core(table)
            self.assertEqual((len(found), {len(row) for row in found}), (table.high, {table.wide}))
            for place, (row, column) in enumerate(boxes):
                self.assertEqual(found[row][column], core.entry(row, column) if place < asked else None)
            not_asked += asked < len(boxes)
        self.assertGreater(not_asked, 60)

    def test_found_core_by_the_answers(self):
        for table in TABLES[::3]:
            tree = plain_tree(table)
            answers = dict(zip(tree_order_of(table.high, table.wide), tree.answers))
            found = found_core(table=table)
            for box, answer in answers.items():
                boxes = plain_road(tree.found, *box)
                share = frac(answers[boxes[1]]) if len(boxes) > 1 else 1
                self.assertEqual(found[box[0]][box[1]], num(frac(answer) / share))

    def test_bad_value(self):
        ends = {"below": 0, "column": 0}
        for table in TABLES:
            tree = plain_tree(table)
            if tree.end == "good":
                self.refuses(BadWant("table"), bad_value, table)
            else:
                self.assertEqual(bad_value(table), plain_minor(table, *tree.paper))
                ends[tree.end] += 1
        self.assertGreater(min(ends.values()), 30)
        self.assertEqual(bad_value(table=Table.read("-3")), (-3, 1))

    def test_bad_value_of_long_roads(self):
        rng = random.Random(2)
        long = 0
        for _ in range(300):
            # No number is below 0 here, so the tree ends at a column or good.
            core = random_table(rng, 4, 4, low=1, noughts=0.25)
            table = made(core)
            tree = plain_tree(table)
            if tree.end == "column":
                self.assertEqual(bad_value(table), plain_minor(table, *tree.paper))
                long += len(tree.paper[0]) > 3
        self.assertGreater(long, 5)

    def test_least_paper(self):
        for table in TABLES:
            paper = least_paper(table)
            lots = least_bad(table)
            self.assertEqual(paper is None, lots is None)
            if paper is not None:
                self.assertEqual(paper, BadPaper(table, *lots))
                self.assertIs(paper.holds(), True)
        self.assertIsNone(least_paper(table=Table.read("1 1\n1 1")))

    def test_six_and_seven(self):
        for table in (Table.nought(7, 1), Table.nought(1, 7), Table.nought(7, 1).raised(0, 0, (-1, 1))):
            self.refuses(TooMany(6), least_paper, table)
            self.assertEqual(isinstance(paper_for(table), GoodPaper), is_good(table))
        self.assertIsNone(least_paper(Table.nought(6, 6)))

    def test_twelve(self):
        table = Table.unit(12)
        self.assertEqual(paper_for(table), GoodPaper(table, table))
        self.assertEqual(found_core(table), table.rows)
        paper = paper_for(table.raised(0, 0, (-2, 1)))
        self.assertEqual((paper.rows, paper.columns, bad_value(paper.table)), ((0,), (0,), (-1, 1)))


if __name__ == "__main__":
    unittest.main()
