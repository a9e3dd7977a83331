import random
import unittest

from helpers import Case, lot_pairs_of, plain_minor, tables_of_any_sign
from minusless.errors import BadWant
from minusless.judging import fits, judge_all, judged, lean
from minusless.papers import BadPaper, GoodPaper, Paper
from minusless.tables import Table
from minusless.unmaking import unmade

GOOD, BAD = Table.read("1 1\n1 2"), Table.read("1 2\n3 4")
HOLDS_GOOD = GoodPaper(GOOD, unmade(GOOD))
FAILS_GOOD = GoodPaper(GOOD, GOOD)
HOLDS_BAD = BadPaper(BAD, (0, 1), (0, 1))
FAILS_BAD = BadPaper(BAD, (0,), (0,))


class OtherPaper(Paper):
    """A paper of a class that the package does not know, which holds."""

    def holds(self):
        return True


class Judging(Case):
    def test_judged(self):
        self.assertEqual(judged(paper=HOLDS_GOOD), "good")
        self.assertEqual(judged(HOLDS_BAD), "bad")
        for paper in (FAILS_GOOD, FAILS_BAD, Paper(GOOD), BadPaper(GOOD, (0, 1), (0, 1)), GoodPaper(BAD, unmade(BAD))):
            self.assertEqual(judged(paper), "nothing")
        self.assertEqual(judged(OtherPaper(GOOD)), "bad")

    def test_judge_all(self):
        self.assertEqual(judge_all([]), "nothing")
        self.assertEqual(judge_all(()), "nothing")
        self.assertEqual(judge_all(papers=[FAILS_GOOD, Paper(GOOD)]), "nothing")
        self.assertEqual((judge_all([HOLDS_BAD]), judge_all([FAILS_BAD])), ("bad", "nothing"))
        self.assertEqual(judge_all((FAILS_GOOD, HOLDS_GOOD, OtherPaper(GOOD))), "good")
        self.assertEqual(judge_all([FAILS_GOOD, OtherPaper(GOOD), HOLDS_GOOD]), "bad")
        self.assertEqual(judge_all([FAILS_BAD, HOLDS_BAD]), "bad")
        self.assertEqual(judge_all([BadPaper(BAD, [1], [1]), GoodPaper(Table(list(BAD.rows)), BAD)]), "nothing")

    def test_judge_all_refuses(self):
        for wrong in (None, 1, "", {}, HOLDS_GOOD, {1: HOLDS_GOOD}):
            self.refuses(BadWant("papers"), judge_all, wrong)
        for papers in ([HOLDS_GOOD, HOLDS_BAD], [HOLDS_BAD, FAILS_BAD, FAILS_GOOD], (Paper(GOOD), Paper(BAD)),
                       [Paper(Table.read("1")), Paper(Table.read("1 1"))]):
            self.refuses(BadWant("papers"), judge_all, papers)

    def test_unlike_tables_are_told_before_a_paper_is_judged(self):
        asked = []

        class Asking(Paper):
            def holds(self):
                asked.append(self.table)
                return True

        self.refuses(BadWant("papers"), judge_all, [Asking(GOOD), Asking(BAD)])
        self.assertEqual(asked, [])
        self.assertEqual(judge_all([Asking(GOOD), Asking(GOOD)]), "bad")
        self.assertEqual(len(asked), 1)

    def test_fits(self):
        self.assertIs(fits(GOOD, HOLDS_GOOD), True)
        self.assertIs(fits(table=Table(list(BAD.rows)), paper=HOLDS_BAD), True)
        self.assertIs(fits(BAD, HOLDS_GOOD), False)
        self.assertIs(fits(GOOD, FAILS_GOOD), False)
        self.assertIs(fits(GOOD, Paper(GOOD)), False)
        self.assertIs(fits(Table.read("1 1 0\n1 2 0"), HOLDS_GOOD), False)


def plain_lean(table, rows, columns):
    """The lots that are left, in the words of the document."""
    pairs = [(row, column) for row in rows for column in columns]
    for row, column in pairs:
        fewer = tuple(kept for kept in rows if kept != row), tuple(kept for kept in columns if kept != column)
        if plain_minor(table, *fewer)[0] < 0:
            return plain_lean(table, *fewer)
    return rows, columns


class Lean(Case):
    def test_against_the_words(self):
        changed = twice = 0
        for table in tables_of_any_sign(60, 4, seed=131):
            for rows, columns in lot_pairs_of(table.high, table.wide):
                paper = BadPaper(table, rows, columns)
                if not paper.holds():
                    self.refuses(BadWant("paper"), lean, paper)
                    continue
                found = lean(paper)
                self.assertEqual((found.rows, found.columns), plain_lean(table, rows, columns))
                self.assertTrue(found.holds() and found.table == table)
                self.assertIsInstance(found, BadPaper)
                changed += found.size() < len(rows)
                twice += found.size() < len(rows) - 1
        self.assertGreater(changed, 50)
        self.assertGreater(twice, 10)

    def test_from_the_beginning_after_each_pair(self):
        rng = random.Random(1)
        behind = 0
        for _ in range(200):
            table = Table([[(rng.randint(-2, 2), 1) for _ in range(4)] for _ in range(4)])
            paper = BadPaper(table, range_lot(4), range_lot(4))
            if paper.holds():
                found = lean(paper=paper)
                self.assertEqual((found.rows, found.columns), plain_lean(table, range_lot(4), range_lot(4)))
                behind += found.size() == 2
        self.assertGreater(behind, 5)

    def test_a_paper_that_is_lean(self):
        self.assertEqual(lean(HOLDS_BAD), HOLDS_BAD)
        paper = BadPaper(Table.read("-1"), (0,), (0,))
        self.assertEqual(lean(paper), paper)

    def test_refused(self):
        for wrong in (FAILS_BAD, HOLDS_GOOD, Paper(BAD), OtherPaper(BAD), None, 1, (BAD, (0, 1), (0, 1))):
            self.refuses(BadWant("paper"), lean, wrong)


def range_lot(size):
    return tuple(range(size))


if __name__ == "__main__":
    unittest.main()
