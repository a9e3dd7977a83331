import random
import unittest

from helpers import WRONG_INTEGERS, Case, plain_good
from minusless.codes import code_length, column_code, order_of, row_code
from minusless.errors import BadCode, BadNumber, BadWant, BadWord, NotGood, NotSquare, NoTurning, OtherSize
from minusless.runs import Run
from minusless.stairs import Stair
from minusless.steps import ColumnStep, RowStep, step_on
from minusless.tables import Table
from minusless.takingback import take_most, takeable
from minusless.threeparts import three_parts
from minusless.words import (after_letter, amounts_of, check_word, code_of_word, idle_places, is_idle, is_shortest,
                             least_run, least_steps, shortest_word, word_table)
from stairhelpers import good_on
from stephelpers import WRONG_AMOUNTS
from wordhelpers import (CODES, WRONG_LETTERS, WRONG_WORDS, amounts_for, plain_code, plain_codes, plain_length,
                         plain_letter, plain_shortest, plain_word_table, shortest_words_of, solid_tables, words_up_to)

NOUGHT, ONE = (0, 1), (1, 1)
WORDS = [(word, size) for size, most in ((1, 0), (2, 4), (3, 5), (4, 4)) for word in words_up_to(size, most)]
SOLID = solid_tables(3)


def places_idle(word, size):
    return tuple(place for place in range(len(word))
                 if plain_code(word[:place], size) == plain_code(word[:place + 1], size))


class Words(Case):
    def test_check_word(self):
        for word, size in WORDS:
            self.assertEqual(check_word(list(word), size), word)
            self.assertEqual(check_word(word=word, size=size), word)
        self.assertEqual(check_word([10, 0, 10] * 50, 12), (10, 0, 10) * 50)

    def test_wrong_words(self):
        for call in (check_word, code_of_word, idle_places, is_shortest):
            for wrong in WRONG_WORDS:
                self.refuses(BadWord(-1), call, wrong, 3)
            for wrong in WRONG_LETTERS + (2,):
                self.refuses(BadWord(0), call, [wrong, 9], 3)
                self.refuses(BadWord(2), call, (0, 1, wrong, 9), 3)
            self.refuses(BadWord(0), call, [0], 1)
            self.refuses(BadWord(1), call, [0, 1], 2)
            for wrong in WRONG_INTEGERS + (0, 13):
                self.refuses(BadWant("size"), call, None, wrong)

    def test_letters(self):
        for code in CODES:
            for letter in range(len(code) - 1):
                found = after_letter(list(code), letter)
                self.assertEqual(found, plain_letter(code, letter))
                self.assertIs(is_idle(code=list(code), letter=letter), found == code)
                self.assertEqual(after_letter(code=code, letter=letter), found)
                self.assertEqual(plain_length(found), plain_length(code) + (found != code))
                # In the order the letter exchanges two neighbours that rise.
                order = list(order_of(code))
                if order[letter] < order[letter + 1]:
                    order[letter:letter + 2] = [order[letter + 1], order[letter]]
                self.assertEqual(order_of(found), tuple(order))

    def test_wrong_letters(self):
        for call in (after_letter, is_idle):
            for wrong in WRONG_LETTERS + (2,):
                self.refuses(BadWord(-1), call, (0, 1, 2), wrong)
            self.refuses(BadWord(-1), call, (0,), 0)
            self.refuses(BadCode(-1), call, None, None)
            self.refuses(BadCode(1), call, [0, 2, 9], None)

    def test_codes_of_words(self):
        for word, size in WORDS:
            self.assertEqual(code_of_word(list(word), size), plain_code(word, size))
            self.assertEqual(code_of_word(word=word, size=size), plain_code(word, size))
            self.assertEqual(idle_places(list(word), size), places_idle(word, size))
            self.assertIs(is_shortest(list(word), size), plain_shortest(word, size))
            self.assertIs(is_shortest(word, size), len(word) == code_length(code_of_word(word, size)))
        self.assertEqual(idle_places(word=(0, 0, 1, 0, 1, 1), size=3), (1, 4, 5))
        self.assertIs(is_shortest(word=(), size=1), True)
        self.assertEqual(code_of_word([], 12), tuple(range(12)))

    def test_shortest_word(self):
        for code in CODES:
            word = shortest_word(list(code))
            self.assertEqual(shortest_word(code=code), word)
            self.assertEqual((plain_code(word, len(code)), len(word)), (code, code_length(code)))
            # Found backwards, with the least letter that can be taken back.
            left, wanted = list(code), []
            while True:
                idle = [letter for letter in range(len(left) - 1) if left[letter] >= left[letter + 1]]
                if not idle:
                    break
                wanted.insert(0, idle[0])
                left[idle[0]:idle[0] + 2] = [left[idle[0] + 1], left[idle[0]] + 1]
            self.assertEqual(word, tuple(wanted))
        self.assertEqual((shortest_word((0,)), shortest_word((0, 0)), len(shortest_word((0,) * 12))), ((), (0,), 66))
        for wrong, place in ((None, -1), ((), -1), ((0, 2), 1), ((True,), 0)):
            self.refuses(BadCode(place), shortest_word, wrong)


class WordTables(Case):
    def test_against_steps(self):
        rng = random.Random(3)
        for word, size in WORDS:
            amounts = amounts_for(rng, word)
            table = word_table(list(word), list(amounts), size)
            self.assertEqual(table, plain_word_table(word, amounts, size))
            self.assertEqual(word_table(word=word, amounts=amounts, size=size), table)
            self.assertEqual(row_code(table), plain_code(word, size))
            self.assertEqual(column_code(table), tuple(range(size)))
            self.assertTrue(all(table.rows[at][at] == ONE for at in range(size)))
        self.assertEqual(word_table((), (), 12), Table.unit(12))
        self.assertTrue(plain_good(word_table((0, 0, 2, 1, 2), [(1, 2)] * 5, 4)))

    def test_wrong_amounts(self):
        for wrong in (None, 1, "", {0: ONE}):
            self.refuses(BadNumber(-1), word_table, (0, 1), wrong, 3)
        for wrong in WRONG_AMOUNTS:
            self.refuses(BadNumber(0), word_table, (0, 1), [wrong, None], 3)
            self.refuses(BadNumber(2), word_table, (0, 1), (ONE, ONE, wrong), 3)
        self.refuses(OtherSize(2, 3), word_table, (0, 1), [ONE] * 3, 3)
        self.refuses(OtherSize(2, 0), word_table, (0, 1), (), 3)
        self.refuses(OtherSize(0, 1), word_table, (), [ONE], 1)

    def test_errors_in_order(self):
        self.refuses(BadWant("size"), word_table, None, None, 0)
        self.refuses(BadWord(1), word_table, (0, 2), None, 3)
        self.refuses(BadWord(-1), word_table, "01", None, 3)

    def test_amounts_of(self):
        rng = random.Random(4)
        for size, most in ((1, 0), (2, 1), (3, 3), (4, 6)):
            for code, words in shortest_words_of(size, most).items():
                for word in words[:3]:
                    amounts = amounts_for(rng, word)
                    table = word_table(word, amounts, size)
                    self.assertEqual(amounts_of(table, list(word)), amounts)
                    self.assertEqual(amounts_of(table=table, word=word), amounts)
        for rows_code, _, table in SOLID:
            word = shortest_word(rows_code)
            amounts = amounts_of(table, word)
            self.assertEqual(word_table(word, amounts, table.high), three_parts(table)[0])

    def test_errors_of_amounts_of(self):
        table = word_table((0, 1), [ONE, ONE], 3)
        self.refuses(NotSquare(2, 3), amounts_of, Table.nought(2, 3), None)
        self.refuses(NotGood(1, 1), amounts_of, Table.read("0 1\n1 0"), None)
        self.refuses(NotGood(1, 1), amounts_of, Table.read("1 0\n0 -1"), None)
        self.refuses(NoTurning(), amounts_of, Table.read("1 1\n1 1"), None)
        for wrong in WRONG_WORDS:
            self.refuses(BadWord(-1), amounts_of, table, wrong)
        for wrong in WRONG_LETTERS + (2,):
            self.refuses(BadWord(2), amounts_of, table, (0, 0, wrong))
        self.refuses(BadWord(1), amounts_of, table, (0, 0))
        self.refuses(BadWord(3), amounts_of, table, (0, 1, 0, 1, 1))
        for other in ((), (0,), (1, 0), (0, 1, 0)):
            self.refuses(BadCode(-1), amounts_of, table, other)
        self.assertEqual(amounts_of(Table.read("3"), ()), ())

    def test_a_step_down_is_a_letter(self):
        for rows_code, columns_code, table in SOLID:
            for letter in range(table.high - 1):
                behind = step_on(table, "down", letter, (1, 2))
                self.assertEqual(row_code(behind), plain_letter(rows_code, letter))
                self.assertEqual(column_code(behind), columns_code)


class LeastSteps(Case):
    def test_least_steps_and_run(self):
        for rows_code, columns_code, table in SOLID:
            many = plain_length(rows_code) + plain_length(columns_code)
            self.assertEqual(least_steps(table=table), many)
            diagonal, run = least_run(table)
            self.assertIsInstance(least_run(table=table), tuple)
            self.assertIsInstance(run, Run)
            self.assertEqual((diagonal, len(run), run.done(diagonal)), (three_parts(table)[1], many, table))
            down, right = shortest_word(rows_code), shortest_word(columns_code)
            wanted = [RowStep(letter, amount) for letter, amount in zip(down, amounts_of(table, down))]
            wanted += [ColumnStep(letter, amount) for letter, amount in zip(right, amounts_of(table.turned(), right))]
            self.assertEqual(list(run), wanted)
        self.assertEqual(least_steps(Table.unit(12)), 0)

    def test_any_order_of_taking_back(self):
        rng = random.Random(5)
        for rows_code, columns_code, table in SOLID:
            left, many = table, 0
            while True:
                possible = [(kind, at) for kind, at in takeable(left) if kind in ("down", "right")]
                if not possible:
                    break
                left = take_most(left, *rng.choice(possible))
                many += 1
            self.assertEqual(many, least_steps(table))
            self.assertTrue(all((left.rows[row][column] != NOUGHT) == (row == column)
                                for row in range(left.high) for column in range(left.high)))

    def test_errors(self):
        for call in (least_steps, least_run):
            self.refuses(NotSquare(3, 2), call, Table.nought(3, 2))
            self.refuses(NotGood(0, 0), call, Table.read("1 2\n2 1"))
            self.refuses(NoTurning(), call, Table.read("0 0\n0 1"))

    def test_twelve(self):
        table = good_on(random.Random(6), Stair.all_full(12, 12))
        diagonal, run = least_run(table)
        self.assertEqual((len(run), run.done(diagonal)), (132, table))


class Codes(unittest.TestCase):
    def test_codes_are_all_reached(self):
        for size in range(1, 5):
            self.assertEqual(sorted({plain_code(shortest_word(code), size) for code in plain_codes(size)}),
                             plain_codes(size))


if __name__ == "__main__":
    unittest.main()
