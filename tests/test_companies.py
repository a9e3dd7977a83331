import random
import unittest
from fractions import Fraction

from helpers import Case, all_lots_of, frac, num, random_table
from minusless.chips import By, Down, Up
from minusless.chipwebs import ChipWeb
from minusless.companies import companies_of, company_total, has_company, lots_behind, step_lots
from minusless.errors import BadChip, BadLot, OtherSize, TooMany
from minusless.meanings import is_good_plainly
from minusless.minors import minor
from minusless.numbers import plus, times
from webhelpers import FROM_NOUGHT, all_companies, end_pairs, webs

ONE = (1, 1)
HALF = (1, 2)
DOWN = Down(0, ONE)


class OneChip(Case):
    def test_down_up_by(self):
        self.assertEqual(step_lots(Down(1, HALF), [1]), (((1,), ONE), ((2,), HALF)))
        self.assertEqual(step_lots(Down(1, HALF), (0, 1, 3)), (((0, 1, 3), ONE), ((0, 2, 3), HALF)))
        self.assertEqual(step_lots(Down(1, HALF), (1, 2)), (((1, 2), ONE),))
        self.assertEqual(step_lots(Down(1, HALF), (2,)), (((2,), ONE),))
        self.assertEqual(step_lots(Up(1, HALF), [2]), (((1,), HALF), ((2,), ONE)))
        self.assertEqual(step_lots(Up(1, HALF), (1, 2)), (((1, 2), ONE),))
        self.assertEqual(step_lots(Up(1, HALF), (1,)), (((1,), ONE),))
        self.assertEqual(step_lots(By(1, HALF), [0, 1]), (((0, 1), HALF),))
        self.assertEqual(step_lots(By(1, HALF), (0, 2)), (((0, 2), ONE),))
        self.assertEqual(step_lots(Down(0, (0, 1)), (0,)), (((0,), ONE), ((1,), (0, 1))))
        for chip in (Down(0, HALF), Up(0, HALF), By(0, HALF)):
            self.assertEqual(step_lots(chip=chip, lot=()), (((), ONE),))

    def test_minors_behind_one_chip(self):
        rng = random.Random(1)
        for web in webs(40, 2):
            table = random_table(rng, web.wires, rng.randint(1, 4))
            for place, chip in enumerate(web.chips):
                behind = web.chip_table(place) * table
                for many in range(min(table.high, table.wide) + 1):
                    for rows in all_lots_of(table.high, many):
                        for columns in all_lots_of(table.wide, many):
                            total = (0, 1)
                            for lot, weight in step_lots(chip, rows):
                                total = plus(total, times(weight, minor(table, lot, columns)))
                            self.assertEqual(minor(behind, rows, columns), total)

    def test_wrong_lots(self):
        for wrong, place in ((None, -1), ("0", -1), ([1, 1], 1), ([2, 0], 1), ([-1], 0), ([True], 0), ([0, 1.0], 1)):
            self.refuses(BadLot(place), step_lots, DOWN, wrong)


class Companies(Case):
    def test_companies_in_order(self):
        for web in webs(40, 3, most_chips=6):
            for rows, columns in end_pairs(web):
                wanted = all_companies(web, rows, columns)
                self.assertEqual(list(companies_of(web, list(rows), columns)), wanted)

    def test_sums_are_minors(self):
        for web in webs(50, 4):
            table = web.ways_table()
            for rows, columns in end_pairs(web):
                wanted = minor(table, rows, columns)
                told = list(companies_of(web, rows, columns))
                self.assertEqual(num(sum((frac(weight) for _, weight in told), Fraction(0))), wanted)
                self.assertEqual(company_total(web, rows, list(columns)), wanted)
                self.assertIs(has_company(web, list(rows), columns), any(weight != (0, 1) for _, weight in told))
                self.assertEqual(len({row for row, _ in told}), len(told))

    def test_empty_lots(self):
        web = ChipWeb(2, [DOWN, By(0, (0, 1))])
        self.assertEqual(list(companies_of(web, (), [])), [(((), (), ()), ONE)])
        self.assertEqual(company_total(web, [], ()), ONE)
        self.assertIs(has_company(web, (), ()), True)
        self.assertEqual(lots_behind(web, (), 2), ((),))

    def test_companies_that_cancel(self):
        web = ChipWeb(2, [DOWN, Down(0, (-1, 1))])
        self.assertEqual(company_total(web, (0,), (1,)), (0, 1))
        self.assertIs(has_company(web, (0,), (1,)), True)
        self.assertEqual(lots_behind(web, (0,), 2), ((0,), (1,)))
        self.assertEqual(len(list(companies_of(web, (0,), (1,)))), 2)

    def test_weight_nought(self):
        web = ChipWeb(2, [Down(0, (0, 1))])
        self.assertEqual(list(companies_of(web, [0], [1])), [(((0,), (1,)), (0, 1))])
        self.assertIs(has_company(web, [0], [1]), False)
        self.assertEqual(lots_behind(web, [0], 1), ((0,),))

    def test_turned_webs(self):
        for web in webs(30, 5, most_chips=5):
            last = web.wires - 1
            for rows, columns in end_pairs(web):
                told = list(companies_of(web, rows, columns))
                backwards = sorted((row[::-1], weight) for row, weight in told)
                self.assertEqual(list(companies_of(web.turned_web(), columns, rows)), backwards)
                half_rows, half_columns = (tuple(last - wire for wire in lot[::-1]) for lot in (rows, columns))
                half = sorted((tuple(tuple(last - wire for wire in lot[::-1]) for lot in row), weight)
                              for row, weight in told)
                self.assertEqual(list(companies_of(web.half_turned_web(), half_rows, half_columns)), half)

    def test_amounts_not_below_nought(self):
        for web in webs(50, 6, amounts=FROM_NOUGHT):
            table = web.ways_table()
            self.assertTrue(is_good_plainly(table))
            for rows, columns in end_pairs(web):
                above = minor(table, rows, columns)[0] > 0
                self.assertEqual(above, has_company(web, rows, columns))
                self.assertEqual(above, columns in lots_behind(web, rows, web.length))

    def test_lots_behind(self):
        for web in webs(30, 7, most_chips=5):
            for rows, _ in end_pairs(web):
                for place in range(web.length + 1):
                    front = ChipWeb(web.wires, web.chips[:place])
                    wanted = tuple(lot for lot in all_lots_of(web.wires, len(rows)) if has_company(front, rows, lot))
                    self.assertEqual(lots_behind(web, list(rows), place), wanted)


class Bounds(Case):
    def test_twenty_and_twenty_one(self):
        self.assertEqual(len(list(companies_of(ChipWeb(2, [DOWN] * 20), [0], [1]))), 20)
        self.refuses(TooMany(20), lambda: list(companies_of(ChipWeb(2, [DOWN] * 21), [0], [1])))
        self.refuses(TooMany(20), lambda: list(companies_of(ChipWeb(2, [DOWN] * 21), [], [])))

    def test_sixty_chips(self):
        web = ChipWeb(2, [DOWN] * 60)
        self.assertEqual(company_total(web, [0], [1]), (60, 1))
        self.assertIs(has_company(web, [0], [1]), True)
        self.assertIs(has_company(web, [1], [0]), False)
        self.assertEqual(lots_behind(web, [0], 60), ((0,), (1,)))
        chips = [made(at, num(Fraction(at % 5 - 2, 2))) for at in range(11) for made in (Down, Up)] * 2
        great = ChipWeb(12, chips + [By(at, (2, 1)) for at in range(12)])
        table = great.ways_table()
        for rows, columns in (((0, 1, 2, 3, 4, 5), (1, 2, 3, 4, 5, 6)), (tuple(range(12)), tuple(range(12)))):
            self.assertEqual(company_total(great, rows, columns), minor(table, rows, columns))

    def test_companies_come_one_by_one(self):
        web = ChipWeb(4, [Down(at % 3, ONE) for at in range(20)])
        self.assertEqual(next(iter(companies_of(web, [0], [0]))), (((0,),) * 21, ONE))


class Errors(Case):
    def test_errors_in_order(self):
        for web in (ChipWeb(2, [DOWN]), ChipWeb(2, [DOWN] * 21)):
            for action in (lambda *ends: list(companies_of(*ends)), company_total, has_company):
                self.refuses(BadLot(0), action, web, [2], None)
                self.refuses(BadLot(-1), action, web, None, None)
                self.refuses(BadLot(1), action, web, [0, True], [0])
                self.refuses(BadLot(0), action, web, [0, 1], [-1])
                self.refuses(BadLot(-1), action, web, [0], {0})
                self.refuses(OtherSize(1, 2), action, web, [0], [0, 1])
        web = ChipWeb(2, [DOWN])
        self.assertEqual(company_total(web=web, rows=[0], columns=[1]), ONE)
        self.assertEqual(len(list(companies_of(web=web, rows=[0], columns=[1]))), 1)

    def test_lots_behind_refuses(self):
        web = ChipWeb(2, [DOWN, DOWN])
        self.refuses(BadLot(0), lots_behind, web, [2], None)
        self.refuses(BadLot(-1), lots_behind, web, 0, 0)
        for wrong in (-1, 3, True, None, "1", 1.0):
            self.refuses(BadChip(wrong), lots_behind, web, [0], wrong)
        self.assertEqual(lots_behind(web=web, rows=[0], place=0), ((0,),))


if __name__ == "__main__":
    unittest.main()
