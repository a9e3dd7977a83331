import random
import unittest
from fractions import Fraction

from corehelpers import plain_companies, plain_weight, runs
from helpers import Case, all_patterns, frac, lot_pairs_of, num, plain_stair, random_number, sizes, table_of
from helpers import tables_of_any_sign
from minusless.boxcompanies import companies_of_core, core_minor, meets_crossing
from minusless.errors import BadLot, BadStair, OtherSize, TooMany
from minusless.making import made
from minusless.minors import minor
from minusless.stairs import Stair, pattern_of
from minusless.tables import Table

NO_STAIR = Table.read("0 1\n1 0")


def cores_on_stairs(most, seed):
    """For each stair one core with this pattern, its numbers of either sign."""
    rng = random.Random(seed)
    for high, wide in sizes(most):
        for rows in all_patterns(high, wide):
            if plain_stair(rows):
                yield Table([[random_number(rng, 1, 3, 0) if box and rng.random() < 0.7
                              else (-2, 1) if box else (0, 1) for box in boxes] for boxes in rows])


class Crossings(Case):
    def test_against_the_ways(self):
        for table in tables_of_any_sign(150, 3, seed=71) + list(cores_on_stairs(2, 1)):
            down, left = set(), set()
            for row in range(table.high):
                for _, turns, boxes in runs(table, row):
                    for place, box in enumerate(boxes):
                        if table.entry(*box) == (0, 1):
                            behind = boxes[place + 1] if place + 1 < len(boxes) else (table.high, box[1])
                            (left if behind[0] == box[0] else down).add(box)
            self.assertEqual(meets_crossing(table), min(down & left, default=None))
            self.assertEqual(meets_crossing(table) is None, plain_stair(pattern_of(table)))

    def test_named(self):
        self.assertEqual(meets_crossing(NO_STAIR), (1, 1))
        self.assertIsNone(meets_crossing(core=Table.read("-1 0\n1 0")))
        self.assertEqual(meets_crossing(Table.read("1 1 -1\n1 0 1\n-1 1 0")), (1, 1))


class Companies(Case):
    def test_companies_in_order(self):
        for core in cores_on_stairs(3, 2):
            if core.high * core.wide > 6 and random.Random(core.words()).random() > 0.3:
                continue
            for rows, columns in lot_pairs_of(core.high, core.wide, 0):
                wanted = plain_companies(core, rows, columns)
                self.assertEqual(list(companies_of_core(core, list(rows), columns)), wanted)
                total = Fraction(0)
                for company in wanted:
                    weight = Fraction(1)
                    for way in company:
                        weight *= frac(plain_weight(core, way))
                    total += weight
                self.assertEqual(core_minor(core, rows, list(columns)), num(total))
                self.assertEqual(minor(made(core), rows, columns), num(total))

    def test_empty_lots(self):
        self.assertEqual(list(companies_of_core(Table.read("1 2"), [], ())), [()])
        self.assertEqual(core_minor(Table.read("1 2"), (), []), (1, 1))

    def test_no_company(self):
        self.assertEqual(list(companies_of_core(Table.read("1 0\n0 1"), [0], [1])), [])
        self.assertEqual(core_minor(Table.read("1 0\n0 1"), [0], [1]), (0, 1))
        # Without a stair the minor is no sum over companies.
        self.assertEqual(plain_companies(NO_STAIR, (0, 1), (0, 1)), [])
        self.assertEqual(minor(made(NO_STAIR), (0, 1), (0, 1)), (-1, 1))


class Refused(Case):
    def test_errors_in_order(self):
        great = table_of([[0] + [1] * 11] + [[1, 0] + [1] * 10])
        for core in (NO_STAIR, great):
            for action in (lambda *ends: list(companies_of_core(*ends)), core_minor):
                self.refuses(BadLot(0), action, core, [2], None)
                self.refuses(BadLot(-1), action, core, None, None)
                self.refuses(BadLot(1), action, core, [0, 0], [0])
                self.refuses(BadLot(0), action, core, [0, 1], [True])
                self.refuses(BadLot(-1), action, core, [0, 1], "0")
                self.refuses(OtherSize(2, 1), action, core, [0, 1], [0])
                self.refuses(BadStair(1, 1), action, core, [0], [0])
                self.refuses(BadStair(1, 1), action, core, [], [])
        self.assertEqual(core_minor(core=Table.unit(2), rows=[0], columns=[0]), (1, 1))

    def test_the_box_at_fault(self):
        for call in (lambda core: list(companies_of_core(core, [0], [0])), lambda core: core_minor(core, [0], [0])):
            self.refuses(BadStair(1, 2), call, Table.read("0 0 1\n1 1 0"))
            self.refuses(BadStair(2, 1), call, Table.read("0 1\n1 1\n1 0"))

    def test_fourteen_and_fifteen(self):
        core = Table([[(1, 1)] * 5] * 3)
        self.refuses(TooMany(14), lambda: list(companies_of_core(core, [0], [0])))
        self.refuses(TooMany(14), lambda: list(companies_of_core(core, [], [])))
        self.assertEqual(core_minor(core, [0, 1], [0, 1]), minor(made(core), [0, 1], [0, 1]))
        less = core.raised(0, 0, (-1, 1))
        self.assertEqual(Stair.of_core(less).many, 14)
        self.assertEqual(list(companies_of_core(less, [0, 1], [0, 1])), plain_companies(less, (0, 1), (0, 1)))
        full = Table([[(1, 1)] * 12] * 12)
        self.assertEqual(core_minor(full, range_lot(12), range_lot(12)), (1, 1))


def range_lot(size):
    return tuple(range(size))


if __name__ == "__main__":
    unittest.main()
