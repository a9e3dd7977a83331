import random
import unittest

from helpers import (Case, good_tables, lot_pairs_of, num, plain_good, plain_minor, random_number, random_table,
                     tables_of_any_sign)
from minusless.breaking import SignPaper, breaking_row, breaks, reaching_row, solved
from minusless.errors import BadNumber, BadWant, NotGood, NotSquare, NoTurning, OtherSize, TooMany
from minusless.judging import fits, judge_all, judged, lean
from minusless.mainrule import core_fault
from minusless.minors import determinant, rank_of
from minusless.papers import BadPaper, GoodPaper, Paper
from minusless.tables import Table
from minusless.unmaking import unmade
from signhelpers import WRONG_ROWS, plain_begins, plain_changes, plain_rule, plain_taken, sign_rows
from stairhelpers import STAIRS, good_tables_on

NOUGHT, ONE = (0, 1), (1, 1)
ANY = tables_of_any_sign(120, most=4, seed=71)
GOOD = good_tables_on(STAIRS[::9], seed=72) + good_tables(40, most=4, seed=73)


def alternating(many):
    return [((-1) ** place, 1) for place in range(many)]


class Solved(Case):
    def test_squares(self):
        rng = random.Random(74)
        turned = 0
        for size in (1, 2, 3, 4):
            for _ in range(40):
                table = random_table(rng, size, size)
                row = [random_number(rng) for _ in range(size)]
                if determinant(table) == NOUGHT:
                    self.refuses(NoTurning(), solved, table, row)
                    continue
                turned += 1
                found = solved(table, list(row))
                self.assertIs(type(found), tuple)
                self.assertEqual(plain_taken(table, found), tuple(row))
                self.assertEqual(solved(table=table, row=tuple(row)), found)
        self.assertGreater(turned, 50)
        self.assertEqual(solved(Table.read("0 1\n2 0"), [ONE, ONE]), ((1, 2), ONE))

    def test_errors_in_order(self):
        self.refuses(NotSquare(1, 2), solved, Table.read("0 0"), None)
        self.refuses(NoTurning(), solved, Table.read("1 1\n1 1"), None)
        self.refuses(NoTurning(), solved, Table.read("0"), [])
        for wrong, place in WRONG_ROWS:
            self.refuses(BadNumber(place), solved, Table.unit(2), wrong)
        for many in (0, 1, 3):
            self.refuses(OtherSize(2, many), solved, Table.unit(2), [ONE] * many)

    def test_twelve(self):
        rows = [[num(max(row, column) + (row == column)) for column in range(12)] for row in range(12)]
        table = Table(rows)
        self.assertEqual(plain_taken(table, solved(table, alternating(12))), tuple(alternating(12)))


class Breaks(Case):
    def test_against_the_rule(self):
        for table in ANY[:60]:
            for row in sign_rows(table.wide):
                self.assertIs(breaks(table, list(row)), not plain_rule(table, row))
        self.assertIs(breaks(table=Table.read("-1"), row=(ONE,)), True)

    def test_errors(self):
        table = Table.nought(2, 3)
        for call in (breaks, SignPaper):
            for wrong, place in WRONG_ROWS:
                self.refuses(BadNumber(place), call, table, wrong)
            for many in (0, 2, 4):
                self.refuses(OtherSize(3, many), call, table, [ONE] * many)


class BreakingRows(Case):
    def test_any_table(self):
        broken = 0
        for table in ANY + GOOD:
            found = breaking_row(table)
            self.assertEqual(breaking_row(table=table), found)
            if plain_good(table):
                self.assertIsNone(found)
                continue
            broken += 1
            rows, columns = next(pair for pair in lot_pairs_of(table.high, table.wide)
                                 if plain_minor(table, *pair)[0] < 0)
            self.assertIs(type(found), tuple)
            self.assertTrue(all(found[column] == NOUGHT for column in range(table.wide) if column not in columns))
            behind = plain_taken(table, found)
            self.assertEqual([behind[row] for row in rows], alternating(len(rows)))
            signs = [found[column][0] for column in columns]
            self.assertTrue(all((top > 0) == (place % 2 == 1) and top != 0 for place, top in enumerate(signs)))
            self.assertTrue(breaks(table, found))
            self.assertEqual((plain_changes(found), plain_begins(found)), (len(rows) - 1, -1))
            more = plain_changes(behind) - plain_changes(found)
            self.assertTrue(more > 0 or (more == 0 and plain_begins(behind) == 1))
        self.assertGreater(broken, 60)

    def test_six_and_seven(self):
        self.assertIsNone(breaking_row(Table.unit(6)))
        self.assertEqual(breaking_row(Table.unit(6).raised(5, 5, (-2, 1))), (NOUGHT,) * 5 + ((-1, 1),))
        for high, wide in ((7, 1), (1, 7), (12, 12)):
            self.refuses(TooMany(6), breaking_row, Table.nought(high, wide))
            self.refuses(TooMany(6), reaching_row, Table.nought(high, wide))
            self.refuses(TooMany(6), reaching_row, Table.nought(high, wide).raised(0, 0, (-1, 1)))


class ReachingRows(Case):
    def test_good_tables(self):
        ranks = set()
        for table in GOOD:
            found = reaching_row(table)
            self.assertEqual(reaching_row(table=table), found)
            self.assertIs(type(found), tuple)
            rank = rank_of(table)
            ranks.add(rank)
            behind = plain_taken(table, found)
            self.assertEqual(plain_changes(behind), rank - 1)
            if rank == 0:
                self.assertEqual(found, (NOUGHT,) * table.wide)
                continue
            rows, columns = next(pair for pair in lot_pairs_of(table.high, table.wide)
                                 if len(pair[0]) == rank and plain_minor(table, *pair) != NOUGHT)
            self.assertTrue(all(found[column] == NOUGHT for column in range(table.wide) if column not in columns))
            self.assertEqual([behind[row] for row in rows], alternating(rank))
        self.assertEqual(ranks, {0, 1, 2, 3, 4})

    def test_no_row_reaches_more(self):
        rng = random.Random(75)
        for table in GOOD:
            rows = sign_rows(table.wide) if table.wide < 4 else []
            rows += [[random_number(rng) for _ in range(table.wide)] for _ in range(20)]
            self.assertTrue(all(plain_changes(plain_taken(table, row)) <= rank_of(table) - 1 for row in rows))

    def test_errors(self):
        for table in ANY:
            if not plain_good(table):
                row, column = core_fault(unmade(table))
                self.refuses(NotGood(row, column), reaching_row, table)
        self.assertEqual(reaching_row(Table.unit(6)), tuple(alternating(6)))


class Papers(Case):
    def test_papers(self):
        for table in ANY[:60]:
            for row in sign_rows(table.wide):
                paper = SignPaper(table, list(row))
                self.assertIsInstance(paper, Paper)
                self.assertEqual((paper.KIND, paper.table, paper.row_told), ("sign", table, row))
                self.assertIs(type(paper.row_told), tuple)
                self.assertIs(paper.holds(), not plain_rule(table, row))
                self.assertEqual(paper.about(), f"about {table.high} x {table.wide}: signs")
                self.assertEqual(paper.size(), sum(number != NOUGHT for number in row))
        self.assertEqual(SignPaper.KIND, "sign")
        self.assertEqual(SignPaper(table=Table.unit(1), row=(ONE,)).size(), 1)

    def test_breaking_rows_hold(self):
        for table in ANY + GOOD:
            row = breaking_row(table)
            if row is not None:
                paper = SignPaper(table, row)
                self.assertTrue(paper.holds())
                self.assertEqual(paper.size(), plain_changes(row) + 1)
                self.assertEqual(judged(paper), "bad")

    def test_equality(self):
        one, other = Table.read("1 1"), Table.read("1 2")
        row = [ONE, NOUGHT]
        paper = SignPaper(one, row)
        self.assertEqual(paper, SignPaper(Table.read("1 1"), tuple(row)))
        for different in (SignPaper(other, row), SignPaper(one, [ONE, ONE]), Paper(one), GoodPaper(one, one),
                          BadPaper(one, [0], [0]), None, 1, (one, row)):
            self.assertNotEqual(paper, different)
            self.assertNotEqual(different, paper)
        row[0] = NOUGHT
        self.assertEqual(paper.row_told, (ONE, NOUGHT))

    def test_judged_with_other_papers(self):
        good, bad = Table.read("1 1\n1 2"), Table.read("1 2\n2 1")
        holds, fails = SignPaper(bad, breaking_row(bad)), SignPaper(bad, [ONE, ONE])
        self.assertEqual([judged(paper) for paper in (holds, fails, SignPaper(good, [ONE, ONE]))],
                         ["bad", "nothing", "nothing"])
        self.assertEqual(judge_all([fails, Paper(bad), holds]), "bad")
        self.assertEqual(judge_all([SignPaper(good, [ONE, ONE]), GoodPaper(good, unmade(good))]), "good")
        self.assertEqual((fits(bad, holds), fits(bad, fails), fits(good, holds)), (True, False, False))
        self.refuses(BadWant("paper"), lean, holds)

    def test_no_sign_paper_holds_for_a_good_table(self):
        for table in GOOD:
            if table.wide < 4:
                self.assertFalse(any(SignPaper(table, row).holds() for row in sign_rows(table.wide)))


if __name__ == "__main__":
    unittest.main()
