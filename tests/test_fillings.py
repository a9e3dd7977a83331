import random
import unittest
from fractions import Fraction

from helpers import Case, frac, lot_pairs_of, num, plain_good, plain_minor, plain_stair
from minusless.blanks import PartTable, known_core
from minusless.errors import BadNumber, BadStair, NoFilling, OtherSize
from minusless.fillings import (bound_stair, filled, free_blanks, good_filling, is_fillable, least_filling, numbers_in,
                                rank_low)
from minusless.mainrule import is_good, stair_of
from minusless.minors import rank_of
from minusless.stairs import Stair, stair_fault
from minusless.tables import Table
from minusless.unmaking import unmade
from parthelpers import (blanks_of, fill_with, full, numbers_from, parts_of_any, parts_of_good, plain_core, plain_fillable,
                         plain_paper, rows_with_blanks)
from stairhelpers import good_on, random_stair
from test_passages import WRONG_ROWS

NOUGHT, ONE = (0, 1), (1, 1)
PARTS = parts_of_any(200, seed=101) + [part for part, _ in parts_of_good(120, seed=102)]
FILLABLE = [part for part in PARTS if plain_fillable(part)]
REFUSED = [part for part in PARTS if not plain_fillable(part)]
RNG = random.Random(103)


def core_of(part, numbers):
    waiting = iter(numbers)
    return Table([[next(waiting) if number is None else number for number in row] for row in plain_core(part)])


def pattern(core):
    return [[int(number != NOUGHT) for number in row] for row in core.rows]


def plain_free(part):
    core = plain_core(part)
    found = []
    for row, column in blanks_of(part):
        below = any(core[at][column] == NOUGHT and any(map(full, core[at][:column]))
                    for at in range(row + 1, part.high))
        right = any(core[row][place] == NOUGHT and any(full(above[place]) for above in core[:row])
                    for place in range(column + 1, part.wide))
        if not below and not right:
            found.append((row, column))
    return tuple(found)


class Fillable(Case):
    def test_both_kinds(self):
        self.assertGreater(min(len(FILLABLE), len(REFUSED)), 60)
        for part in FILLABLE:
            self.assertIs(is_fillable(part), True)
        for part in REFUSED:
            self.assertIs(is_fillable(part=part), False)

    def test_refused_have_no_good_filling(self):
        for part in REFUSED:
            for _ in range(8):
                self.assertFalse(plain_good(fill_with(part, numbers_from(RNG, len(blanks_of(part)), low=0))))

    def test_part_of_a_good_table(self):
        for part, table in parts_of_good(80, seed=104):
            self.assertIs(is_fillable(part), True)
            core = unmade(table)
            numbers = [core.rows[row][column] for row, column in blanks_of(part)]
            self.assertEqual(filled(part, numbers), table)
            self.assertEqual(numbers_in(part, table), tuple(numbers))


class Filled(Case):
    def test_any_numbers(self):
        for part in PARTS:
            numbers = numbers_from(RNG, len(blanks_of(part)))
            table = filled(part, list(numbers))
            self.assertTrue(part.agrees(table))
            self.assertEqual(unmade(table), core_of(part, numbers))
            self.assertEqual(filled(part=part, numbers=tuple(numbers)), table)

    def test_errors(self):
        for part in (PartTable([[None, None, ONE]]), PartTable([[None, None, (-1, 1)]])):
            for wrong, place in WRONG_ROWS:
                self.refuses(BadNumber(place), filled, part, wrong)
            for many in (0, 1, 3):
                self.refuses(OtherSize(many, 2), filled, part, [ONE] * many)
        self.assertEqual(filled(PartTable([[ONE]]), []), Table.unit(1))


class GoodFillings(Case):
    def test_good_fillings(self):
        found = {True: 0, False: 0}
        for part in FILLABLE:
            for _ in range(5):
                numbers = numbers_from(RNG, len(blanks_of(part)), low=0)
                core = core_of(part, numbers)
                fault = stair_fault(pattern(core))
                self.assertIs(fault is None, plain_stair(pattern(core)))
                found[fault is None] += 1
                if fault is not None:
                    self.refuses(BadStair(*fault), good_filling, part, numbers)
                    self.assertFalse(plain_good(filled(part, numbers)))
                    continue
                table = good_filling(part, list(numbers))
                self.assertEqual(good_filling(part=part, numbers=tuple(numbers)), table)
                self.assertEqual(table, filled(part, numbers))
                self.assertTrue(plain_good(table))
                self.assertEqual(numbers_in(part, table), tuple(numbers))
        self.assertGreater(min(found.values()), 60)

    def test_errors_in_order(self):
        part = PartTable([[None, None, ONE], [None, NOUGHT, ONE]])
        for wrong, place in WRONG_ROWS:
            self.refuses(BadNumber(place), good_filling, part, wrong)
        self.refuses(BadNumber(1), good_filling, part, [ONE, (-1, 1), (-2, 1), ONE])
        self.refuses(BadNumber(2), good_filling, part, [(-1, 1), ONE, (2, 4)])
        for many in (0, 2, 4):
            self.refuses(OtherSize(many, 3), good_filling, part, [ONE] * many)
        self.refuses(BadStair(1, 1), good_filling, part, [ONE, ONE, ONE])
        self.assertTrue(is_good(good_filling(part, [ONE, ONE, NOUGHT])))
        self.assertTrue(is_good(good_filling(part, [ONE, NOUGHT, ONE])))


class NumbersIn(Case):
    def test_any_tables(self):
        kinds = {"good": 0, "bad": 0, "other": 0}
        for part in PARTS:
            table = fill_with(part, numbers_from(RNG, len(blanks_of(part)), low=0))
            found = numbers_in(part, table)
            if plain_good(table):
                kinds["good"] += 1
                self.assertEqual(found, tuple(unmade(table).rows[row][column] for row, column in blanks_of(part)))
                self.assertEqual(numbers_in(part=part, table=table), found)
                self.assertEqual(good_filling(part, found), table)
            else:
                kinds["bad"] += 1
                self.assertIsNone(found)
            row, column = part.known_boxes()[0]
            other = table.raised(row, column, ONE)
            kinds["other"] += plain_good(other)
            self.assertIsNone(numbers_in(part, other))
        self.assertGreater(min(kinds.values()), 20)
        self.assertIsNone(numbers_in(PartTable([[None, ONE]]), Table.read("1\n1")))
        self.assertEqual(numbers_in(PartTable([[ONE]]), Table.unit(1)), ())


class Least(Case):
    def test_every_minor_is_least(self):
        for part in FILLABLE:
            table = least_filling(part)
            self.assertEqual(least_filling(part=part), table)
            self.assertEqual(unmade(table), core_of(part, [NOUGHT] * len(blanks_of(part))))
            self.assertTrue(plain_good(table))
            self.assertEqual(rank_low(part), rank_of(table))
            self.assertEqual(rank_low(part=part), rank_low(part))
            self.assertEqual(bound_stair(part), stair_of(table))
            self.assertEqual(bound_stair(part=part), bound_stair(part))
            for _ in range(4):
                numbers = numbers_from(RNG, len(blanks_of(part)), low=0)
                if stair_fault(pattern(core_of(part, numbers))) is None:
                    other = filled(part, numbers)
                    self.assertGreaterEqual(rank_of(other), rank_low(part))
                    for rows, columns in lot_pairs_of(part.high, part.wide):
                        self.assertLessEqual(frac(plain_minor(table, rows, columns)),
                                             frac(plain_minor(other, rows, columns)))

    def test_one_blank_at_the_corner(self):
        told = 0
        for part in FILLABLE:
            if blanks_of(part) == [(0, 0)]:
                told += 1
                table = least_filling(part)
                for step in (0, Fraction(1, 9), 5):
                    self.assertTrue(is_good(table.raised(0, 0, num(step))))
                self.assertFalse(is_good(table.raised(0, 0, (-1, 9))))
        self.assertGreater(told, 5)

    def test_more_known_numbers_do_not_lower_it(self):
        for part, table in parts_of_good(60, seed=105):
            now = part
            for row, column in blanks_of(part)[::-1]:
                before = least_filling(now)
                free = (row, column) in free_blanks(now)
                number = table.rows[row][column]
                core = known_core(now.with_known(row, column, number))[row][column]
                self.assertTrue(core == NOUGHT or (core[0] > 0 and free))
                now = now.with_known(row, column, number)
                after = least_filling(now)
                for rows, columns in lot_pairs_of(part.high, part.wide):
                    self.assertLessEqual(frac(plain_minor(before, rows, columns)),
                                         frac(plain_minor(after, rows, columns)))

    def test_a_number_put_into_a_blank(self):
        told = {True: 0, False: 0}
        for part in FILLABLE:
            free = free_blanks(part)
            for row, column in part.blanks():
                if (row, column + 1) in part.blanks() or (row + 1, column) in part.blanks():
                    continue
                for number in (NOUGHT, ONE, (3, 1), (-1, 2)):
                    found = part.with_known(row, column, number)
                    core = known_core(found)[row][column]
                    wanted = core == NOUGHT or (core[0] > 0 and (row, column) in free)
                    self.assertIs(is_fillable(found), wanted)
                    told[wanted] += 1
        self.assertGreater(min(told.values()), 30)


class Free(Case):
    def test_each_alone_and_with_others(self):
        kinds = {True: 0, False: 0}
        for part in FILLABLE:
            found = free_blanks(part)
            self.assertEqual(free_blanks(part=part), found)
            self.assertEqual(found, plain_free(part))
            blank = blanks_of(part)
            for at, box in enumerate(blank):
                kinds[box in found] += 1
                alone = [NOUGHT] * len(blank)
                alone[at] = (2, 3)
                if box in found:
                    self.assertTrue(plain_good(good_filling(part, alone)))
                else:
                    self.assertFalse(is_good(filled(part, alone)))
                    for _ in range(4):
                        numbers = numbers_from(RNG, len(blank), low=0)
                        numbers[at] = ONE
                        self.assertFalse(is_good(filled(part, numbers)))
            # All free blanks of one row or column may be full at once.
            last = [ONE if box in found and box[0] == 0 else NOUGHT for box in blank]
            self.assertEqual(is_good(filled(part, last)), stair_fault(pattern(core_of(part, last))) is None)
        self.assertGreater(min(kinds.values()), 30)


class NoFillings(Case):
    def test_the_paper_comes_first(self):
        for part in REFUSED:
            wanted = NoFilling(*plain_paper(part))
            for call in (least_filling, free_blanks, rank_low, bound_stair):
                self.refuses(wanted, call, part)
            self.refuses(wanted, good_filling, part, None)
            self.refuses(wanted, good_filling, part, [(-1, 1)])
            self.assertEqual(numbers_in(part, fill_with(part, [ONE] * len(blanks_of(part)))), None)

    def test_without_a_blank(self):
        bad, good = PartTable(Table.read("1 2\n2 1").rows), PartTable(Table.read("1 1\n1 2").rows)
        self.refuses(NoFilling((0, 1), (0, 1)), least_filling, bad)
        self.assertEqual((is_fillable(bad), is_fillable(good)), (False, True))
        self.assertEqual(least_filling(good).rows, good.rows)
        self.assertEqual(good_filling(good, ()).rows, good.rows)
        self.assertEqual((free_blanks(good), rank_low(good), numbers_in(good, Table(good.rows))), ((), 2, ()))
        self.assertEqual(bound_stair(good), Stair.all_full(2, 2))

    def test_twelve(self):
        rng = random.Random(106)
        for full_share in (0.5, 0.9):
            table = good_on(rng, random_stair(rng, 12, 12, full_share))
            shape = tuple(sorted((rng.randint(0, 11) for _ in range(12)), reverse=True))
            part = PartTable(rows_with_blanks(table, shape))
            self.assertTrue(is_fillable(part))
            self.assertEqual(filled(part, numbers_in(part, table)), table)
            least = least_filling(part)
            self.assertTrue(is_good(least) and part.agrees(least))
            self.assertEqual((rank_low(part), bound_stair(part)), (rank_of(least), stair_of(least)))
            self.assertEqual(free_blanks(part), plain_free(part))
            broken = [list(row) for row in part.rows]
            broken[11][11] = (-1, 1)
            self.refuses(NoFilling((11,), (11,)), least_filling, PartTable(broken))


if __name__ == "__main__":
    unittest.main()
