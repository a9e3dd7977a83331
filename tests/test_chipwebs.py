import random
import unittest
from fractions import Fraction

from helpers import WRONG_INTEGERS, Case, frac, num
from minusless.chips import By, Chip, Down, Up
from minusless.chipwebs import ChipWeb
from minusless.errors import BadBox, BadChip, BadWant, OtherSize, TooMany
from minusless.tables import Table
from webhelpers import all_ways, chip_weight, webs

ONE = (1, 1)
DOWN = Down(0, ONE)
WRONG_CHIPS = (None, 1, "down 0 1", (0, ONE), Chip(0, ONE), Down, True)


class Making(Case):
    def test_attributes(self):
        chips = [Down(0, ONE), Up(1, (-1, 2)), By(2, (0, 1))]
        web = ChipWeb(3, chips)
        self.assertEqual((web.wires, web.chips, web.length, len(web)), (3, tuple(chips), 3, 3))
        self.assertIs(type(web.chips), tuple)
        self.assertEqual(list(web), chips)
        chips.append(DOWN)
        self.assertEqual(web.length, 3)
        self.assertEqual(ChipWeb(wires=3, chips=tuple(web)), web)

    def test_without_chips(self):
        for web in (ChipWeb(4), ChipWeb(4, ()), ChipWeb(4, []), ChipWeb.empty(4), ChipWeb.empty(wires=4)):
            self.assertEqual((web.wires, web.chips, web.length), (4, (), 0))
        for wrong in WRONG_INTEGERS + (0, 13):
            self.refuses(BadWant("wires"), ChipWeb.empty, wrong)
            self.refuses(BadWant("wires"), ChipWeb, wrong)
            self.refuses(BadWant("wires"), ChipWeb, wrong, None)
        self.assertEqual(ChipWeb(12).wires, 12)

    def test_chips_that_do_not_fit(self):
        for wrong in (None, 1, "", DOWN, {0: DOWN}, iter([DOWN])):
            self.refuses(BadChip(-1), ChipWeb, 2, wrong)
        for wrong in WRONG_CHIPS + (Down(1, ONE), Up(1, ONE), By(2, ONE)):
            self.refuses(BadChip(1), ChipWeb, 2, [DOWN, wrong, None])
        self.refuses(BadChip(0), ChipWeb, 1, [DOWN])
        self.assertEqual(ChipWeb(1, [By(0, ONE)]).length, 1)
        self.assertEqual(ChipWeb(2, [DOWN, Up(0, ONE), By(1, ONE)]).length, 3)

    def test_sixty_and_sixty_one(self):
        self.assertEqual(ChipWeb(2, [DOWN] * 60).length, 60)
        self.refuses(TooMany(60), ChipWeb, 2, [DOWN] * 61)
        self.refuses(BadChip(60), ChipWeb, 2, [DOWN] * 60 + [None])


class Tables(Case):
    def test_table_is_the_product(self):
        for web in webs(60, 1):
            wanted = Table.unit(web.wires)
            for place in range(web.length):
                wanted = wanted * web.chip_table(place)
            self.assertEqual(web.ways_table(), wanted)

    def test_chip_table(self):
        for web in webs(30, 2):
            for place, chip in enumerate(web.chips):
                wanted = [[num(chip_weight(chip, row, column) or Fraction(0)) for column in range(web.wires)]
                          for row in range(web.wires)]
                self.assertEqual(web.chip_table(place), Table(wanted))

    def test_entries_are_sums_of_ways(self):
        for web in webs(40, 3):
            table = web.ways_table()
            for start in range(web.wires):
                for stop in range(web.wires):
                    total = sum((frac(weight) for _, weight in all_ways(web, start, stop)), Fraction(0))
                    self.assertEqual(table.entry(start, stop), num(total))

    def test_empty_web(self):
        self.assertEqual(ChipWeb(3).ways_table(), Table.unit(3))
        self.assertEqual(list(ChipWeb(3).ways(1, 1)), [((1,), ONE)])
        self.assertEqual(list(ChipWeb(3).ways(1, 2)), [])
        self.assertEqual([ChipWeb(3).way_count(1, stop) for stop in range(3)], [0, 1, 0])

    def test_turned(self):
        for web in webs(60, 4):
            self.assertEqual(web.turned_web().ways_table(), web.ways_table().turned())
            self.assertEqual(web.half_turned_web().ways_table(), web.ways_table().half_turned())
            self.assertEqual(web.turned_web().turned_web(), web)
            self.assertEqual(web.half_turned_web().half_turned_web(), web)

    def test_half_turned_chips(self):
        web = ChipWeb(4, [Down(0, (2, 1)), Up(2, (3, 1)), By(0, (5, 1))])
        self.assertEqual(web.half_turned_web().chips, (Up(2, (2, 1)), Down(0, (3, 1)), By(3, (5, 1))))
        self.assertEqual(web.turned_web().chips, (By(0, (5, 1)), Down(2, (3, 1)), Up(0, (2, 1))))

    def test_sixty_chips(self):
        web = ChipWeb(2, [DOWN, Up(0, ONE)] * 30)
        one, other = 1, 1
        for _ in range(58):
            one, other = other, one + other
        # The table is a power of (2, 1; 1, 1), whose entries are Fibonacci numbers.
        self.assertEqual(web.ways_table().entry(0, 1), num(other))
        self.assertEqual(web.way_count(0, 1), other)
        self.assertEqual(ChipWeb(12, [Down(at % 11, ONE) for at in range(60)]).ways_table().high, 12)


class Ways(Case):
    def test_ways_in_order(self):
        for web in webs(50, 5):
            for start in range(web.wires):
                for stop in range(web.wires):
                    wanted = all_ways(web, start, stop)
                    self.assertEqual(list(web.ways(start, stop)), wanted)
                    self.assertEqual(web.way_count(start, stop), len(wanted))

    def test_amount_nought_is_counted(self):
        web = ChipWeb(2, [Down(0, (0, 1))])
        self.assertEqual(list(web.ways(0, 1)), [((0, 1), (0, 1))])
        self.assertEqual(web.way_count(start=0, stop=1), 1)
        self.assertEqual(list(web.ways(start=1, stop=0)), [])

    def test_twenty_and_twenty_one(self):
        self.assertEqual(len(list(ChipWeb(2, [DOWN] * 20).ways(0, 1))), 20)
        web = ChipWeb(2, [DOWN] * 21)
        self.refuses(TooMany(20), lambda: list(web.ways(0, 1)))
        self.refuses(TooMany(20), lambda: list(web.ways(1, 0)))
        self.assertEqual(web.way_count(0, 1), 21)

    def test_ways_come_one_by_one(self):
        web = ChipWeb(2, [By(0, (1, 2))] + [DOWN, Up(0, ONE)] * 9)
        self.assertEqual(next(iter(web.ways(0, 0))), ((0,) * 20, (1, 2)))

    def test_wrong_wires(self):
        for web in (ChipWeb(2, [DOWN]), ChipWeb(2, [DOWN] * 21)):
            for start, stop in ((-1, 0), (0, -1), (2, 0), (0, 2), (True, 0), (0, False), (None, 0), (0, "1"), (1.0, 0)):
                self.refuses(BadBox(start, stop), lambda: list(web.ways(start, stop)))
                self.refuses(BadBox(start, stop), web.way_count, start, stop)


class Places(Case):
    def test_with_and_without(self):
        for web in webs(40, 6):
            chip = By(0, (7, 2))
            for place in range(web.length + 1):
                more = web.with_chip(place, chip)
                self.assertEqual(more.chips, web.chips[:place] + (chip,) + web.chips[place:])
                self.assertEqual(more.without_chip(place), web)

    def test_wrong_places(self):
        web = ChipWeb(2, [DOWN, DOWN])
        for wrong in WRONG_INTEGERS + (2, 3):
            self.refuses(BadChip(wrong), web.chip_table, wrong)
            self.refuses(BadChip(wrong), web.without_chip, wrong)
        for wrong in WRONG_INTEGERS + (3,):
            self.refuses(BadChip(wrong), web.with_chip, wrong, DOWN)
            self.refuses(BadChip(wrong), web.with_chip, wrong, None)
        self.refuses(BadChip(0), ChipWeb(2).chip_table, 0)
        self.refuses(BadChip(0), ChipWeb(2).without_chip, 0)

    def test_chips_that_do_not_fit(self):
        for web in (ChipWeb(2, [DOWN]), ChipWeb(2, [DOWN] * 60)):
            for wrong in WRONG_CHIPS + (Down(1, ONE), By(2, ONE)):
                self.refuses(BadChip(1), web.with_chip, 1, wrong)
        self.refuses(TooMany(60), ChipWeb(2, [DOWN] * 60).with_chip, 60, DOWN)
        self.assertEqual(ChipWeb(2, [DOWN] * 59).with_chip(place=59, chip=DOWN).length, 60)


class Signs(Case):
    def test_sum(self):
        rng = random.Random(7)
        found = webs(40, 8)
        for _ in range(300):
            one, other = rng.choice(found), rng.choice(found)
            if one.wires != other.wires:
                self.refuses(OtherSize(one.wires, other.wires), lambda: one + other)
                continue
            self.assertEqual((one + other).chips, one.chips + other.chips)
            self.assertEqual((one + other).ways_table(), one.ways_table() * other.ways_table())

    def test_sum_bounds(self):
        self.assertEqual((ChipWeb(2, [DOWN] * 30) + ChipWeb(2, [DOWN] * 30)).length, 60)
        self.refuses(TooMany(60), lambda: ChipWeb(2, [DOWN] * 30) + ChipWeb(2, [DOWN] * 31))
        self.refuses(OtherSize(2, 3), lambda: ChipWeb(2, [DOWN] * 60) + ChipWeb(3, [DOWN] * 60))

    def test_times(self):
        for web in webs(30, 9):
            power = Table.unit(web.wires)
            for times in range(5):
                self.assertEqual((web * times).chips, web.chips * times)
                self.assertEqual((web * times).ways_table(), power)
                power = power * web.ways_table()

    def test_times_bounds(self):
        self.assertEqual((ChipWeb(2, [DOWN, DOWN]) * 30).length, 60)
        self.refuses(TooMany(60), lambda: ChipWeb(2, [DOWN, DOWN]) * 31)
        self.refuses(TooMany(60), lambda: ChipWeb(2, [DOWN]) * 10 ** 40)
        self.assertEqual(ChipWeb(2) * 10 ** 40, ChipWeb(2))
        self.assertEqual(ChipWeb(2, [DOWN] * 60) * 0, ChipWeb.empty(2))
        for wrong in WRONG_INTEGERS + (ONE, ChipWeb(2)):
            self.refuses(BadWant("times"), lambda: ChipWeb(2, [DOWN]) * wrong)

    def test_equal(self):
        web = ChipWeb(3, [DOWN, By(1, ONE)])
        self.assertTrue(web == ChipWeb(3, (Down(0, ONE), By(1, ONE))))
        for other in (ChipWeb(4, web.chips), ChipWeb(3, web.chips[::-1]), ChipWeb(3, web.chips[:1]), web.chips, None,
                      ChipWeb(3, [Up(0, ONE), By(1, ONE)])):
            self.assertFalse(web == other)
            self.assertTrue(web != other)


if __name__ == "__main__":
    unittest.main()
