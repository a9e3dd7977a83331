import unittest
from fractions import Fraction

from helpers import Case, all_lots_of, num
from minusless.chips import By, Down, Up
from minusless.chipwebs import ChipWeb
from minusless.companies import company_total, has_company
from minusless.cutting import cut, longest_company, middle_sum
from minusless.errors import BadChip, BadLot, OtherSize
from minusless.minors import rank_of
from minusless.numbers import plus, times
from minusless.tables import Table
from webhelpers import FROM_NOUGHT, end_pairs, webs

ONE = (1, 1)
DOWN = Down(0, ONE)
WRONG_PLACES = (-1, 3, True, False, None, "1", 1.0, (1,))


class Cutting(Case):
    def test_cut_at_every_place(self):
        for web in webs(40, 1):
            for place in range(web.length + 1):
                pieces = cut(web, place)
                self.assertIs(type(pieces), tuple)
                front, back = pieces
                self.assertEqual((front.wires, front.chips), (web.wires, web.chips[:place]))
                self.assertEqual((back.wires, back.chips), (web.wires, web.chips[place:]))
                self.assertEqual(front + back, web)
                self.assertEqual(front.ways_table() * back.ways_table(), web.ways_table())

    def test_middle_sum(self):
        for web in webs(25, 2, most_chips=5):
            for place in range(web.length + 1):
                front, back = cut(web, place)
                for rows, columns in end_pairs(web):
                    total = (0, 1)
                    for lot in all_lots_of(web.wires, len(rows)):
                        total = plus(total, times(company_total(front, rows, lot), company_total(back, lot, columns)))
                    self.assertEqual(total, company_total(web, rows, columns))
                    self.assertEqual(middle_sum(web, place, list(rows), columns), total)

    def test_errors_in_order(self):
        web = ChipWeb(2, [DOWN, DOWN])
        for wrong in WRONG_PLACES:
            self.refuses(BadChip(wrong), cut, web, wrong)
            self.refuses(BadChip(wrong), middle_sum, web, wrong, None, None)
        self.refuses(BadLot(0), middle_sum, web, 1, [2], None)
        self.refuses(BadLot(1), middle_sum, web, 1, [0], [0, 0])
        self.refuses(OtherSize(0, 1), middle_sum, web, 1, [], [0])
        self.assertEqual(middle_sum(web=web, place=2, rows=[0], columns=[1]), (2, 1))
        self.assertEqual(cut(web=web, place=0)[0], ChipWeb.empty(2))


class Longest(Case):
    def test_against_companies(self):
        for web in webs(60, 3):
            wanted = max(len(rows) for rows, columns in end_pairs(web) if has_company(web, rows, columns))
            self.assertEqual(longest_company(web), wanted)
            self.assertLessEqual(rank_of(web.ways_table()), wanted)

    def test_rank_of_amounts_from_nought(self):
        for web in webs(80, 4, amounts=FROM_NOUGHT):
            self.assertEqual(rank_of(web.ways_table()), longest_company(web))

    def test_rank_may_be_less(self):
        web = ChipWeb(2, [DOWN, Up(0, (-1, 1)), By(0, (0, 1)), DOWN])
        self.assertLessEqual(rank_of(web.ways_table()), longest_company(web))
        # Two companies cancel, so the one entry that is left is nought, though ways lead there.
        web = ChipWeb(2, [By(1, (0, 1)), DOWN, Down(0, (-1, 1)), By(0, (0, 1))])
        self.assertEqual((web.ways_table(), longest_company(web)), (Table.nought(2, 2), 1))

    def test_edges(self):
        self.assertEqual(longest_company(ChipWeb(3)), 3)
        self.assertEqual(longest_company(ChipWeb(1, [By(0, (0, 1))])), 0)
        self.assertEqual(longest_company(web=ChipWeb(2, [By(0, (0, 1)), By(1, (0, 1))])), 0)

    def test_sixty_chips(self):
        self.assertEqual(longest_company(ChipWeb(2, [DOWN] * 60)), 2)
        amounts = [num(Fraction(at % 3, 2)) for at in range(54)]
        chips = [By(at, (0, 1)) for at in range(6)] + [Down(at % 11, amount) for at, amount in enumerate(amounts)]
        web = ChipWeb(12, chips)
        self.assertEqual(longest_company(web), rank_of(web.ways_table()))


if __name__ == "__main__":
    unittest.main()
