import random
import unittest
from fractions import Fraction

from helpers import WRONG_INTEGERS, Case, num, plain_minor, table_of
from minusless.errors import BadNumber, BadWant, NotGood, NotSquare, TooMany
from minusless.mainrule import core_fault
from minusless.minors import determinant
from minusless.polynomials import root_poly
from minusless.powers import neighbours_full
from minusless.roots import above_count, at_count, by_turns, nonzero_roots, own_size, root_floor, root_words
from minusless.stairs import Stair
from minusless.tables import Table
from minusless.unmaking import unmade
from polyhelpers import plain_poly, roots_above, roots_at, shared, slope_of
from stairhelpers import STAIRS, good_on, good_tables_on, random_stair

NOUGHT, ONE = (0, 1), (1, 1)
RNG = random.Random(131)
SQUARE_STAIRS = [stair for stair in STAIRS if stair.high == stair.wide]
GOOD = good_tables_on(SQUARE_STAIRS[::3], seed=132) + [good_on(RNG, random_stair(RNG, 4, 4, full))
                                                       for full in (0.3, 0.6, 0.9) for _ in range(12)]
LARGE = [good_on(RNG, random_stair(RNG, size, size, full)) for size in (5, 6) for full in (0.5, 0.9)]
BAD = [Table.read(words) for words in ("1 2\n2 1", "1 0\n0 -1", "0 1\n1 0", "-1")]
WRONG_NUMBERS = (None, 1, "1", 1.0, (2, 4), [1, 1], (1, 0), (True, 1), ())
VALUES = [Fraction(-2), Fraction(0), Fraction(1, 3), Fraction(1), Fraction(2), Fraction(7, 2), Fraction(11)]


def triangle(roots):
    """A good table with these roots on its diagonal and 1 below it."""
    size = len(roots)
    return table_of([[roots[row] if row == column else 1 if row == column + 1 else 0 for column in range(size)]
                     for row in range(size)])


# Tables whose roots are known, with those roots.
KNOWN = [(triangle([3, 1, 2]), [3, 2, 1]), (triangle([2, 2, 2, 2]), [2] * 4), (triangle([0, 0, 5]), [5, 0, 0]),
         (triangle([Fraction(1, 3), Fraction(5, 2)]), [Fraction(5, 2), Fraction(1, 3)]), (triangle([0]), [0]),
         (Table.read("2 1\n2 3"), [4, 1]), (Table.read("1 1\n1 1"), [2, 0]), (Table.unit(6), [1] * 6),
         (Table.nought(6, 6), [0] * 6), (Table.read("5 4\n1 2"), [6, 1]), (triangle([7, 0, 7, 1, 0, 7]), [7, 7, 7, 1, 0, 0])]


class Counts(Case):
    def test_known_roots(self):
        for table, roots in KNOWN:
            for value in [Fraction(-1), Fraction(100)] + VALUES + [Fraction(root) for root in roots]:
                number = num(value)
                self.assertEqual(above_count(table, number), sum(root > value for root in roots))
                self.assertEqual(at_count(table, number), sum(root == value for root in roots))
            self.assertEqual(nonzero_roots(table), sum(root > 0 for root in roots))

    def test_against_remainders(self):
        for table in GOOD + LARGE:
            poly = plain_poly(table)
            for value in VALUES:
                self.assertEqual(above_count(table, num(value)), roots_above(poly, value))
                self.assertEqual(at_count(table, num(value)), roots_at(poly, value))
            self.assertEqual(above_count(table, (-1, 1)), table.high)
            self.assertEqual(nonzero_roots(table=table), roots_above(poly, Fraction(0)))
            self.assertEqual(nonzero_roots(table) + at_count(table=table, number=NOUGHT), table.high)
            self.assertEqual(above_count(table=table, number=ONE), roots_above(poly, Fraction(1)))

    def test_by_turns(self):
        for table in GOOD + LARGE:
            for value in VALUES:
                found = by_turns(table, num(value))
                self.assertEqual(by_turns(table=table, number=num(value)), found)
                wanted = [roots_above(plain_poly(table, start), value) for start in range(table.high, -1, -1)]
                self.assertEqual(found, tuple(wanted))
                self.assertTrue(all(more - less in (0, 1) for less, more in zip(found, found[1:])))
            self.assertEqual(found[0], 0)

    def test_turned_and_half_turned(self):
        for table in GOOD:
            for value in VALUES:
                for other in (table.turned(), table.half_turned()):
                    self.assertEqual(above_count(other, num(value)), above_count(table, num(value)))

    def test_unlike_roots(self):
        told = 0
        for table in GOOD + LARGE:
            if determinant(table) != NOUGHT and neighbours_full(table):
                told += 1
                poly, shorter = plain_poly(table), plain_poly(table, 1)
                # No root twice, and none that the shorter polynomial has.
                self.assertEqual(shared(poly, slope_of(poly)), [1])
                self.assertEqual(shared(poly, shorter), [1])
                self.assertEqual(nonzero_roots(table), table.high)
        self.assertGreater(told, 5)


class Floors(Case):
    def test_known_roots(self):
        for table, roots in KNOWN:
            for under in (1, 7, 100, 1000000):
                wanted = [int(Fraction(root) * under // 1) for root in roots]
                self.assertEqual([root_floor(table, place, under) for place in range(table.high)], wanted)
                self.assertEqual(root_words(table, under), tuple(f"{value}/{under}" for value in wanted))
        self.assertEqual(root_words(table=triangle([Fraction(5, 2)]), under=100), ("250/100",))
        self.assertEqual(root_floor(table=triangle([3, 1]), place=1, under=1), 1)

    def test_against_remainders(self):
        for table in GOOD[::3] + LARGE:
            poly = plain_poly(table)
            for under in (1, 100):
                for place in range(table.high):
                    found = root_floor(table, place, under)
                    for more, wanted in ((0, True), (1, False)):
                        value = Fraction(found + more, under)
                        many = roots_above(poly, value) + roots_at(poly, value)
                        self.assertIs(many >= place + 1, wanted)
                self.assertEqual(root_words(table, under), tuple(f"{root_floor(table, place, under)}/{under}"
                                                                 for place in range(table.high)))


class OwnSizes(Case):
    def test_minors_and_roots(self):
        for stair in SQUARE_STAIRS:
            table = good_on(RNG, stair)
            sizes = [len(lot) for lot in lots_of(stair.high) if plain_minor(table, lot, lot) != NOUGHT]
            self.assertEqual(own_size(stair), max(sizes))
            self.assertEqual(own_size(stair=stair), nonzero_roots(table))
        for table in LARGE:
            self.assertEqual(own_size(Stair.of_core(unmade(table))), nonzero_roots(table))
        self.assertEqual(own_size(Stair([[0, 1], [0, 0]])), 0)
        self.assertEqual((own_size(Stair.all_full(6, 6)), own_size(Stair.all_empty(6, 6))), (6, 0))

    def test_errors(self):
        self.refuses(NotSquare(2, 3), own_size, Stair.all_full(2, 3))
        self.refuses(NotSquare(8, 7), own_size, Stair.all_full(8, 7))
        for size in (7, 12):
            self.refuses(TooMany(6), own_size, Stair.all_empty(size, size))


def lots_of(size):
    return [tuple(place for place in range(size) if number >> place & 1) for number in range(2 ** size)]


class Errors(Case):
    def calls(self):
        return (lambda table, wrong: above_count(table, wrong), lambda table, wrong: at_count(table, wrong),
                lambda table, wrong: by_turns(table, wrong), lambda table, wrong: root_floor(table, wrong, None),
                lambda table, _: nonzero_roots(table), lambda table, wrong: root_words(table, wrong))

    def test_tables(self):
        for call in self.calls():
            self.refuses(NotSquare(1, 2), call, Table.read("-1 0"), None)
            self.refuses(NotSquare(7, 8), call, Table.nought(7, 8), None)
            for bad in BAD:
                row, column = core_fault(unmade(bad))
                self.refuses(NotGood(row, column), call, bad, None)
            large = Table.nought(7, 7).raised(6, 6, (-1, 1))
            self.refuses(NotGood(6, 6), call, large, None)
            for size in (7, 12):
                self.refuses(TooMany(6), call, Table.unit(size), None)

    def test_numbers(self):
        for call in (above_count, at_count, by_turns):
            for wrong in WRONG_NUMBERS:
                self.refuses(BadNumber(-1), call, Table.unit(2), wrong)

    def test_places_and_unders(self):
        for wrong in WRONG_INTEGERS + (2,):
            self.refuses(BadWant("place"), root_floor, Table.unit(2), wrong, None)
        for wrong in WRONG_INTEGERS + (0, 1000001):
            self.refuses(BadWant("under"), root_floor, Table.unit(2), 1, wrong)
            self.refuses(BadWant("under"), root_words, Table.unit(2), wrong)
        self.assertEqual(root_words(Table.unit(2), 1000000), ("1000000/1000000",) * 2)
        self.assertEqual(len(root_poly(Table.unit(6))), 7)


if __name__ == "__main__":
    unittest.main()
