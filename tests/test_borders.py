import random
import unittest
from fractions import Fraction
from itertools import combinations

from helpers import WRONG_INTEGERS, Case, frac, lot_pairs_of, num, plain_minor
from minusless.borders import (below_by_words, border_table, codes_below, is_below, nearing, star, telling_corner,
                               telling_noughts)
from minusless.codes import column_code, reach, row_code, turned_order
from minusless.errors import BadCode, BadLot, BadNumber, BadWant, BadWord, OtherSize, TooMany
from minusless.meanings import meaning
from minusless.words import code_of_word, shortest_word
from stephelpers import WRONG_AMOUNTS
from wordhelpers import (amounts_for, plain_code, plain_codes, plain_length, plain_letter, plain_word_table,
                         shortest_words_of, solid_tables)

NOUGHT, ONE = (0, 1), (1, 1)
PAIRS = [(one, other) for size in range(1, 4) for one in plain_codes(size) for other in plain_codes(size)]
SOLID = solid_tables(3, seed=5)


def codes_inside(word, size):
    """The codes of all words that come from the word by leaving letters out."""
    found = set()
    for many in range(len(word) + 1):
        for places in combinations(range(len(word)), many):
            found.add(plain_code([word[place] for place in places], size))
    return found


def plain_star(one, other, words):
    found = set()
    for word in words[one]:
        code = other
        for letter in word:
            code = plain_letter(code, letter)
        found.add(code)
    return found


class Below(Case):
    def check_pair(self, one, other, inside):
        wanted = one in inside
        self.assertIs(is_below(list(one), list(other)), wanted)
        self.assertIs(is_below(lesser=one, greater=other), wanted)
        self.assertIs(below_by_words(list(one), list(other)), wanted)
        self.assertIs(below_by_words(lesser=one, greater=other), wanted)
        self.assertIs(is_below(turned_order(one), turned_order(other)), wanted)
        size = len(one)
        corners = [(row, column) for row in range(size) for column in range(size)
                   if reach(one, row, column) > reach(other, row, column)]
        self.assertEqual(telling_corner(list(one), list(other)), corners[0] if corners else None)
        self.assertIs(corners == [], wanted)
        return wanted

    def test_all_pairs(self):
        for size in range(1, 5):
            codes = plain_codes(size)
            below = {}
            for other in codes:
                inside = codes_inside(shortest_word(other), size)
                below[other] = [one for one in codes if self.check_pair(one, other, inside)]
                self.assertEqual(codes_below(list(other)), tuple(below[other]))
                self.assertTrue(all(plain_length(one) < plain_length(other) or one == other for one in below[other]))
            # An order, with a least and a greatest code.
            for code in codes:
                self.assertTrue(all(set(below[lesser]) <= set(below[code]) for lesser in below[code]))
            self.assertEqual(below[codes[0]], codes)
            self.assertTrue(all(codes[-1] in held for held in below.values()))

    def test_any_shortest_word(self):
        for size, most in ((3, 3), (4, 4)):
            for code, words in shortest_words_of(size, most).items():
                for word in words:
                    self.assertEqual(codes_inside(word, size), set(codes_below(code)))

    def test_large(self):
        rng = random.Random(1)
        held = 0
        for _ in range(60):
            other = tuple(rng.randint(0, place) for place in range(12))
            word = [letter for letter in shortest_word(other) if rng.random() < 0.8]
            word += [rng.randrange(11) for _ in range(rng.randint(0, 4))]
            one = plain_code(word, 12)
            held += is_below(one, other)
            self.assertIs(below_by_words(one, other), is_below(one, other))
        self.assertTrue(10 < held < 50)
        self.assertIs(is_below(tuple(range(12)), (0,) * 12), True)
        self.assertIs(below_by_words((0,) * 12, tuple(range(12))), False)

    def test_bounds_and_examples(self):
        self.assertEqual(len(codes_below((0, 0, 0, 0, 0))), 120)
        self.assertEqual(codes_below(code=(0, 1, 2, 3, 4)), ((0, 1, 2, 3, 4),))
        self.refuses(TooMany(5), codes_below, (0, 1, 2, 3, 4, 5))
        for wrong, place in ((None, -1), ((), -1), ((0, 1, 3), 2)):
            self.refuses(BadCode(place), codes_below, wrong)

    def test_wrong_pairs(self):
        for call in (is_below, below_by_words, telling_corner, telling_noughts, star):
            for wrong, place in ((None, -1), ((), -1), ((0, 2), 1), ((False,), 0)):
                self.refuses(BadCode(place), call, wrong, None)
                self.refuses(BadCode(place), call, (0,), wrong)
            self.refuses(OtherSize(2, 3), call, (0, 1), (0, 1, 2))
            self.refuses(OtherSize(3, 2), call, (0, 1, 2), (0, 1))


class Noughts(Case):
    def test_telling_noughts(self):
        told = 0
        tables = {}
        for rows_code, columns_code, table in SOLID:
            tables.setdefault(rows_code, []).append(table)
        for one, other in PAIRS:
            if is_below(one, other):
                self.refuses(BadCode(-1), telling_noughts, one, other)
                continue
            told += 1
            rows, columns = telling_noughts(list(one), list(other))
            self.assertEqual(telling_noughts(lesser=one, greater=other), (rows, columns))
            self.assertTrue(all(plain_minor(table, rows, columns)[0] > 0 for table in tables[one]))
            self.assertTrue(all(plain_minor(table, rows, columns) == NOUGHT for table in tables[other]))
        self.assertGreater(told, 10)

    def test_noughts_tell_what_is_below(self):
        for size in range(1, 5):
            codes = plain_codes(size)
            noughts = {}
            for code in codes:
                word = shortest_word(code)
                table = plain_word_table(word, amounts_for(random.Random(3), word), size)
                noughts[code] = {(rows, columns) for rows, columns, value in meaning(table) if value == NOUGHT}
            for one in codes:
                for other in codes:
                    self.assertIs(is_below(one, other), noughts[other] <= noughts[one])


class Near(Case):
    def test_tables(self):
        rng = random.Random(4)
        for _ in range(60):
            size = rng.randint(2, 4)
            word = tuple(rng.randrange(size - 1) for _ in range(rng.randint(0, 5)))
            amounts = amounts_for(rng, word)
            kept = [place for place in range(len(word)) if rng.random() < 0.5]
            border = border_table(list(word), list(amounts), list(kept), size)
            self.assertEqual(border, plain_word_table([word[place] for place in kept],
                                                      [amounts[place] for place in kept], size))
            self.assertEqual(border_table(word=word, amounts=amounts, kept=kept, size=size), border)
            found = {}
            for number in ((1, 1), (1, 2), (1, 7)):
                near = nearing(list(word), list(amounts), list(kept), number, size)
                mixed = [amount if place in kept else number for place, amount in enumerate(amounts)]
                self.assertEqual(near, plain_word_table(word, mixed, size))
                self.assertEqual(nearing(word=word, amounts=amounts, kept=kept, number=number, size=size), near)
                self.assertEqual(row_code(near), code_of_word(word, size))
                found[number] = near
            for number, near in found.items():
                for row, column in lot_pairs_of(size, size)[:size * size]:
                    low = frac(border.entry(row[0], column[0]))
                    here = frac(near.entry(row[0], column[0])) - low
                    most = frac(found[ONE].entry(row[0], column[0])) - low
                    self.assertTrue(0 <= here <= Fraction(*number) * most)

    def test_numbers_above_one(self):
        self.assertEqual(nearing((0,), [ONE], [], (5, 2), 2), plain_word_table((0,), [num(Fraction(5, 2))], 2))

    def test_errors_in_order(self):
        word, amounts = (0, 1), (ONE, ONE)
        for call, more in ((nearing, (ONE,)), (border_table, ())):
            for wrong in WRONG_INTEGERS + (0, 13):
                self.refuses(BadWant("size"), call, None, None, None, *more, wrong)
            self.refuses(BadWord(-1), call, None, None, None, *more, 3)
            self.refuses(BadWord(1), call, (0, 2), None, None, *more, 3)
            self.refuses(BadNumber(-1), call, word, None, None, *more, 3)
            self.refuses(BadNumber(1), call, word, (ONE, NOUGHT), None, *more, 3)
            self.refuses(OtherSize(2, 1), call, word, (ONE,), None, *more, 3)
            for wrong in (None, 0, "0", {0: 0}):
                self.refuses(BadLot(-1), call, word, amounts, wrong, *more, 3)
            for wrong in (2, -1, True, None, "0", 1.0):
                self.refuses(BadLot(0), call, word, amounts, [wrong, 0], *more, 3)
            self.refuses(BadLot(1), call, word, amounts, [1, 1], *more, 3)
            self.refuses(BadLot(1), call, word, amounts, [1, 0], *more, 3)
            self.refuses(BadLot(0), call, (), (), [0], *more, 3)
        for wrong in WRONG_AMOUNTS:
            self.refuses(BadNumber(-1), nearing, word, amounts, [0], wrong, 3)
            self.refuses(BadNumber(-1), nearing, word, amounts, [0, 1], wrong, 3)
        self.refuses(BadLot(-1), nearing, word, amounts, None, NOUGHT, 3)


class Star(Case):
    def test_any_shortest_word(self):
        for size, most in ((1, 0), (2, 1), (3, 3), (4, 6)):
            words = shortest_words_of(size, most)
            for one in plain_codes(size):
                for other in plain_codes(size):
                    self.assertEqual({star(list(one), list(other))}, plain_star(one, other, words))
                    self.assertEqual(star(one=one, other=other), star(one, other))

    def test_products(self):
        for rows_one, columns_one, one in SOLID:
            for rows_other, columns_other, other in SOLID[::3]:
                if one.high == other.high:
                    table = one * other
                    self.assertEqual(row_code(table), star(rows_one, rows_other))
                    self.assertEqual(column_code(table), star(columns_other, columns_one))


if __name__ == "__main__":
    unittest.main()
