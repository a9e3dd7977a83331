import unittest

from helpers import Case, all_lots_of
from minusless.errors import BadLot, BadWant
from minusless.lots import all_lots, check_lot, lot_with, lot_without, lots


class Lots(Case):
    def test_lots_in_order(self):
        for size in range(7):
            for many in range(9):
                self.assertEqual(list(lots(size, many)), all_lots_of(size, many))
        self.assertEqual(list(lots(0, 0)), [()])
        self.assertEqual(list(lots(5, 0)), [()])
        self.assertEqual(list(lots(2, 3)), [])
        self.assertEqual(list(lots(2, 10 ** 30)), [])
        self.assertEqual(len(list(lots(12, 6))), 924)

    def test_lots_come_one_by_one(self):
        found = lots(1000, 998)
        self.assertEqual(next(iter(found)), tuple(range(998)))

    def test_all_lots(self):
        for size in range(6):
            wanted = [lot for many in range(size + 1) for lot in all_lots_of(size, many)]
            self.assertEqual(list(all_lots(size)), wanted)

    def test_wrong_sizes(self):
        for wrong in (True, False, -1, 1.0, "1", None, (1,)):
            self.refuses(BadWant("size"), lambda: list(lots(wrong, 1)))
            self.refuses(BadWant("many"), lambda: list(lots(1, wrong)))
            self.refuses(BadWant("size"), lambda: list(lots(wrong, wrong)))
            self.refuses(BadWant("size"), lambda: list(all_lots(wrong)))

    def test_names_of_arguments(self):
        self.assertEqual(list(lots(size=2, many=1)), [(0,), (1,)])
        self.assertEqual(list(all_lots(size=1)), [(), (0,)])
        self.assertEqual(check_lot(lot=[0], size=1), (0,))
        self.assertEqual(lot_with(lot=(0,), thing=1), (0, 1))
        self.assertEqual(lot_without(lot=(0, 1), thing=1), (0,))


class CheckLot(Case):
    def test_lots(self):
        self.assertEqual(check_lot([], 0), ())
        self.assertEqual(check_lot((), 3), ())
        self.assertEqual(check_lot([0, 2], 3), (0, 2))
        self.assertEqual(check_lot((0, 1, 2), 3), (0, 1, 2))
        self.assertIs(type(check_lot([1], 2)), tuple)

    def test_no_row(self):
        for wrong in (None, 1, "01", {0}, {0: 1}, range(2), True):
            self.refuses(BadLot(-1), check_lot, wrong, 3)

    def test_first_wrong_place(self):
        for lot, place in (([3], 0), ([-1], 0), ([0, 0], 1), ([1, 0], 1), ([0, 1, 3], 2), ([0, True], 1), ([False], 0),
                           ([0, 1.0], 1), ([0, "1"], 1), ([0, None, 5], 1), ([2, 1, 9], 1), ([5, 0], 0), ([0, 5, 1], 1),
                           ([(0,)], 0)):
            self.refuses(BadLot(place), check_lot, lot, 3)
            self.refuses(BadLot(place), check_lot, tuple(lot), 3)
        self.refuses(BadLot(0), check_lot, [0], 0)


class LotWithAndWithout(Case):
    def test_against_sorted(self):
        for size in range(6):
            for many in range(size + 1):
                for lot in all_lots_of(size, many):
                    for thing in range(8):
                        self.assertEqual(lot_with(list(lot), thing), tuple(sorted({*lot, thing})))
                        self.assertEqual(lot_without(lot, thing), tuple(x for x in lot if x != thing))

    def test_results_are_tuples(self):
        for result in (lot_with([0], 0), lot_with([0], 1), lot_without([0], 0), lot_without([0], 5)):
            self.assertIs(type(result), tuple)

    def test_great_things(self):
        self.assertEqual(lot_with([3], 10 ** 30), (3, 10 ** 30))
        self.assertEqual(lot_without([3, 10 ** 30], 3), (10 ** 30,))

    def test_errors_in_order(self):
        for action in (lot_with, lot_without):
            self.refuses(BadLot(-1), action, None, None)
            self.refuses(BadLot(1), action, [1, 1], -1)
            self.refuses(BadLot(0), action, [-1], 0)
            self.refuses(BadLot(1), action, [0, True], 0)
            for wrong in (-1, True, None, 1.0, "1", (0,)):
                self.refuses(BadWant("thing"), action, [0, 2], wrong)


if __name__ == "__main__":
    unittest.main()
