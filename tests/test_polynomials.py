import random
import unittest
from fractions import Fraction

from helpers import Case, frac, num, random_number, random_table
from minusless.errors import BadNumber, NotSquare, TooMany
from minusless.polynomials import (check_poly, low_noughts, poly_changes, poly_times, poly_words, root_poly, shifted,
                                   trail, value_at)
from minusless.tables import Table
from polyhelpers import fractions, numbers, plain_poly, product_of, sum_of, value_of
from signhelpers import plain_changes

NOUGHT, ONE = (0, 1), (1, 1)
RNG = random.Random(121)


def random_poly(size):
    first = RNG.choice((ONE, (-2, 1), (1, 3)))
    return [first] + [random_number(RNG) for _ in range(size - 1)]


POLYS = [random_poly(RNG.randint(1, 6)) for _ in range(120)] + [random_poly(13) for _ in range(5)]
SQUARES = [random_table(RNG, size, size, noughts=noughts) for size in (1, 2, 3, 4) for noughts in (0.1, 0.5)
           for _ in range(12)]
WRONG_POLYS = ((None, -1), (1, -1), ("", -1), ({}, -1), ([], -1), ((), -1), ([ONE, 1], 1), ([None, 1], 0), ([(2, 4)], 0),
               ((NOUGHT, ONE, (1, 0)), 2), ([NOUGHT], 0), ((NOUGHT, ONE), 0), ([NOUGHT] * 14, 0), ([[1, 1]], 0),
               ([(True, 1)], 0), ([ONE] * 13 + [5], 13))
WRONG_NUMBERS = (None, 1, "1", 1.0, (2, 4), [1, 1], (1, 0), (True, 1), ())


def plain_shift(poly, value):
    """The powers of x and the value worked out."""
    total, power = [Fraction(0)], [Fraction(1)]
    for factor in fractions(poly)[::-1]:
        total = sum_of(total, [factor * part for part in power])
        power = product_of(power, [Fraction(1), value])
    return numbers(total)


class Polynomials(Case):
    def test_check_poly(self):
        for poly in POLYS:
            self.assertEqual(check_poly(list(poly)), tuple(poly))
            self.assertEqual(check_poly(poly=tuple(poly)), tuple(poly))
        self.assertEqual(check_poly([ONE] * 13), (ONE,) * 13)

    def test_wrong_polynomials(self):
        calls = (check_poly, poly_changes, low_noughts, poly_words, lambda poly: value_at(poly, None),
                 lambda poly: shifted(poly, None), lambda poly: poly_times(poly, None),
                 lambda poly: poly_times([ONE], poly))
        for call in calls:
            for wrong, place in WRONG_POLYS:
                self.refuses(BadNumber(place), call, wrong)
            self.refuses(TooMany(13), call, [ONE] * 14)
        for wrong in WRONG_NUMBERS:
            self.refuses(BadNumber(-1), value_at, [ONE, ONE], wrong)
            self.refuses(BadNumber(-1), shifted, [ONE, ONE], wrong)

    def test_value_at(self):
        for poly in POLYS:
            for value in (Fraction(0), Fraction(1), Fraction(-2, 3), Fraction(5)):
                self.assertEqual(value_at(list(poly), num(value)), num(value_of(fractions(poly), value)))
        self.assertEqual(value_at(poly=[(2, 1), NOUGHT, ONE], number=(3, 1)), (19, 1))

    def test_times(self):
        for one in POLYS[:60]:
            other = RNG.choice(POLYS)
            if len(one) + len(other) > 14:
                self.refuses(TooMany(13), poly_times, one, other)
                continue
            wanted = numbers(product_of(fractions(one), fractions(other)))
            self.assertEqual(poly_times(list(one), list(other)), wanted)
            self.assertEqual(poly_times(one=tuple(one), other=tuple(other)), wanted)
        self.assertEqual(len(poly_times([ONE] * 7, [ONE] * 7)), 13)
        self.assertEqual(len(poly_times([ONE] * 13, [ONE])), 13)
        self.refuses(TooMany(13), poly_times, [ONE] * 13, [ONE, ONE])
        self.refuses(TooMany(13), poly_times, [ONE] * 7, [ONE] * 8)

    def test_shifted(self):
        for poly in POLYS:
            for value in (Fraction(0), Fraction(1), Fraction(-2, 3), Fraction(7)):
                found = shifted(list(poly), num(value))
                self.assertEqual(found, plain_shift(poly, value))
                self.assertEqual(shifted(poly=tuple(poly), number=num(value)), found)
                self.assertEqual(shifted(found, num(-value)), tuple(poly))

    def test_changes_and_noughts(self):
        for poly in POLYS:
            self.assertEqual(poly_changes(list(poly)), plain_changes(poly))
            self.assertEqual(poly_changes(poly=poly), plain_changes(poly))
            for many in range(0, 14 - len(poly)):
                longer = list(poly) + [NOUGHT] * many
                last = next(place for place, number in enumerate(longer[::-1]) if number != NOUGHT)
                self.assertEqual(low_noughts(longer), last)
                self.assertEqual(low_noughts(poly=tuple(longer)), last)
        self.assertEqual((low_noughts([ONE]), low_noughts([ONE] + [NOUGHT] * 12)), (0, 12))


class PolynomialsOfTables(Case):
    def test_determinants(self):
        for table in SQUARES:
            found = trail(table)
            self.assertEqual(trail(table=table), found)
            self.assertEqual(found, tuple(numbers(plain_poly(table, start)) for start in range(table.high, -1, -1)))
            self.assertEqual(root_poly(table), found[-1])
            self.assertEqual(root_poly(table=table), found[-1])
            self.assertEqual(found[0], (ONE,))
            self.assertEqual(root_poly(table.turned()), found[-1])
            self.assertEqual(root_poly(table.half_turned()), found[-1])
            # The half-turned table begins with the last rows and columns.
            half = trail(table.half_turned())
            for many in range(table.high + 1):
                part = table.part(range_of(many), range_of(many)) if many else None
                self.assertEqual(half[many], numbers(plain_poly(part)) if many else (ONE,))

    def test_six_and_seven(self):
        table = random_table(RNG, 6, 6)
        self.assertEqual(root_poly(table), numbers(plain_poly(table)))
        self.assertEqual(trail(table)[4], numbers(plain_poly(table, 2)))
        self.assertEqual(len(trail(table)), 7)
        for call in (root_poly, trail):
            self.refuses(TooMany(6), call, Table.unit(7))
            self.refuses(TooMany(6), call, Table.unit(12))
            self.refuses(NotSquare(2, 3), call, Table.nought(2, 3))
            self.refuses(NotSquare(7, 8), call, Table.nought(7, 8))
        self.assertEqual(root_poly(Table.read("5/2")), (ONE, (-5, 2)))


def range_of(many):
    return tuple(range(many))


class Words(Case):
    def test_terms(self):
        for poly, words in (([ONE], "1"), ([(-1, 1)], "-1"), ([(3, 2)], "3/2"), ([(-3, 2)], "-3/2"),
                            ([ONE, NOUGHT], "x"), ([(-1, 1), NOUGHT], "-x"), ([(2, 1), NOUGHT], "2 x"),
                            ([(-1, 2), ONE], "-1/2 x + 1"), ([ONE, ONE, ONE], "x^2 + x + 1"),
                            ([ONE, (-1, 1), (-1, 1)], "x^2 - x - 1"), ([(-1, 1), NOUGHT, (2, 3)], "-x^2 + 2/3"),
                            ([(5, 1), (-2, 1), NOUGHT, (1, 2), (-7, 3)], "5 x^4 - 2 x^3 + 1/2 x - 7/3"),
                            ([ONE] + [NOUGHT] * 12, "x^12"), ([(10, 1), (1, 10), (-10, 1)], "10 x^2 + 1/10 x - 10"),
                            ([(-11, 1), NOUGHT, NOUGHT, (-1, 1), NOUGHT], "-11 x^4 - x")):
            self.assertEqual(poly_words(poly), words)
            self.assertEqual(poly_words(poly=tuple(poly)), words)

    def test_read_back(self):
        for poly in POLYS:
            total = {}
            for term in poly_words(poly).replace(" - ", " + -").split(" + "):
                sign = -1 if term.startswith("-") else 1
                parts = term.removeprefix("-").split(" ")
                letter = parts[-1] if parts[-1].startswith("x") else ""
                size = Fraction(parts[0]) if not parts[0].startswith("x") else Fraction(1)
                power = 0 if not letter else int(letter[2:]) if "^" in letter else 1
                self.assertNotIn(power, total)
                total[power] = sign * size
            wanted = {power: frac(number) for power, number in enumerate(poly[::-1]) if number != NOUGHT}
            self.assertEqual(total, wanted)
            self.assertEqual(list(total), sorted(total, reverse=True))


if __name__ == "__main__":
    unittest.main()
