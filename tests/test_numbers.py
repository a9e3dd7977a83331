import random
import unittest
from fractions import Fraction

from helpers import Case, frac, num
from minusless.errors import BadNumber, BadText
from minusless.numbers import (check_number, check_row, is_above, less, number_of, over, plus, read_number, sign_of,
                               times, whole, written)

WRONG_NUMBERS = ([1, 2], (True, 1), (False, 1), (1, True), (1, 0), (1, -1), (-1, -2), (2, 4), (0, 2), (0, 0), (1,),
                 (1, 2, 3), (), 1, 1.5, "1", None, (1.0, 2), (1, 2.0), ("1", 2), ((1, 2), 1), Fraction(1, 2))
NUMBERS = [num(Fraction(top, under)) for top in range(-4, 5) for under in range(1, 5)] + [
    (10 ** 70 + 1, 10 ** 35), (-(10 ** 70) - 1, 3)]


class Sums(Case):
    def test_the_four_against_fractions(self):
        for one in NUMBERS:
            for other in NUMBERS:
                self.assertEqual(plus(one, other), num(frac(one) + frac(other)))
                self.assertEqual(less(one, other), num(frac(one) - frac(other)))
                self.assertEqual(times(one, other), num(frac(one) * frac(other)))
                if other[0]:
                    self.assertEqual(over(one, other), num(frac(one) / frac(other)))

    def test_taken_back(self):
        for one in NUMBERS:
            for other in NUMBERS:
                self.assertEqual(less(plus(one, other), other), one)
                if other[0]:
                    self.assertEqual(over(times(one, other), other), one)

    def test_nought_has_one_form(self):
        self.assertEqual(less((1, 3), (1, 3)), (0, 1))
        self.assertEqual(plus((-1, 3), (1, 3)), (0, 1))
        self.assertEqual(times((0, 1), (-5, 7)), (0, 1))
        self.assertEqual(over((0, 1), (-5, 7)), (0, 1))
        self.assertEqual(number_of(0, -5), (0, 1))

    def test_results_are_tuples_of_plain_integers(self):
        for result in (plus((1, 2), (1, 3)), over((1, 2), (-1, 3)), number_of(4, -6), whole(3)):
            self.assertIs(type(result), tuple)
            self.assertEqual([type(part) for part in result], [int, int])

    def test_division_by_nought(self):
        self.refuses(BadNumber(-1), over, (1, 2), (0, 1))
        self.refuses(BadNumber(-1), over, (0, 1), (0, 1))

    def test_wrong_numbers(self):
        for wrong in WRONG_NUMBERS:
            for action in (plus, less, times, over, is_above):
                self.refuses(BadNumber(-1), action, wrong, (1, 2))
                self.refuses(BadNumber(-1), action, (1, 2), wrong)
            for action in (check_number, sign_of, written):
                self.refuses(BadNumber(-1), action, wrong)

    def test_names_of_arguments(self):
        self.assertEqual(plus(one=(1, 2), other=(1, 2)), (1, 1))
        self.assertEqual(less(one=(1, 2), other=(1, 1)), (-1, 2))
        self.assertEqual(times(one=(1, 2), other=(2, 1)), (1, 1))
        self.assertEqual(over(one=(1, 2), other=(2, 1)), (1, 4))
        self.assertEqual(number_of(top=2, under=4), (1, 2))
        self.assertEqual(read_number(words="1/2"), (1, 2))


class Making(Case):
    def test_number_of(self):
        for top in range(-6, 7):
            for under in (-4, -3, -1, 1, 2, 6):
                self.assertEqual(number_of(top, under), num(Fraction(top, under)))
        self.assertEqual(number_of(10 ** 90, 10 ** 89), (10, 1))

    def test_number_of_refuses(self):
        for wrong in (True, False, 1.0, "1", None, (1, 1)):
            self.refuses(BadNumber(-1), number_of, wrong, 1)
            self.refuses(BadNumber(-1), number_of, 1, wrong)
            self.refuses(BadNumber(-1), whole, wrong)
        self.refuses(BadNumber(-1), number_of, 1, 0)

    def test_whole(self):
        for top in (-3, 0, 7, 10 ** 80):
            self.assertEqual(whole(top), (top, 1))

    def test_check_number_hands_back_the_number(self):
        for number in NUMBERS:
            self.assertIs(check_number(number), number)

    def test_check_row(self):
        self.assertEqual(check_row([]), ())
        self.assertEqual(check_row(()), ())
        self.assertEqual(check_row([(1, 2), (0, 1)]), ((1, 2), (0, 1)))
        row = [(1, 2)]
        found = check_row(row)
        row.append((3, 1))
        self.assertEqual(found, ((1, 2),))
        self.assertIs(type(found), tuple)

    def test_check_row_refuses(self):
        for wrong in (None, 1, "12", {(1, 2): 1}, {(1, 2)}, iter([(1, 2)]), range(2)):
            self.refuses(BadNumber(-1), check_row, wrong)
        for wrong in WRONG_NUMBERS:
            self.refuses(BadNumber(1), check_row, [(1, 2), wrong, (1, 3), wrong])
            self.refuses(BadNumber(0), check_row, (wrong,))


class Order(Case):
    def test_sign_of(self):
        self.assertEqual([sign_of(number) for number in ((3, 2), (0, 1), (-1, 9))], [1, 0, -1])

    def test_is_above(self):
        for one in NUMBERS:
            for other in NUMBERS:
                self.assertIs(is_above(one, other), frac(one) > frac(other))


class Strings(Case):
    def test_written(self):
        told = {(0, 1): "0", (-3, 1): "-3", (12, 1): "12", (1, 2): "1/2", (-7, 10): "-7/10"}
        for number, words in told.items():
            self.assertEqual(written(number), words)
            self.assertEqual(read_number(words), number)

    def test_read_undoes_written(self):
        rng = random.Random(5)
        for _ in range(300):
            number = num(Fraction(rng.randint(-10 ** 30, 10 ** 30), rng.randint(1, 10 ** rng.randint(0, 30))))
            self.assertEqual(read_number(written(number)), number)

    def test_refused_words(self):
        words = ("", "-", "-0", "00", "01", "-01", "+1", "--1", " 1", "1 ", "1\n", "1/1", "-1/1", "0/1", "0/2", "-0/3",
                 "2/4", "6/3", "1/0", "1/-2", "1/+2", "1/02", "1/00", "01/2", "1/", "/2", "-/2", "1/2/3", "1//2",
                 "1.5", "1e3", "1_0", "x", "0x1", "\u0661", "\u00b2", "1/\u0662", "1 /2", "1/ 2", "1,2", "1-", "1-2")
        for word in words:
            self.refuses(BadText(-1), read_number, word)

    def test_no_string(self):
        for wrong in (None, 1, (1, 2), b"1", ["1"], True):
            self.refuses(BadText(-1), read_number, wrong)

    def test_sixty_figures(self):
        long = "1" + "0" * 59
        self.assertEqual(read_number(long), (10 ** 59, 1))
        self.assertEqual(read_number("-" + long), (-(10 ** 59), 1))
        self.assertEqual(read_number("1/" + long), (1, 10 ** 59))
        self.assertEqual(read_number("-" + "9" * 60 + "/" + long), (1 - 10 ** 60, 10 ** 59))
        for wrong in ("1" + "0" * 60, "-1" + "0" * 60, "1/1" + "0" * 60, "1" + "0" * 60 + "/3"):
            self.refuses(BadText(-1), read_number, wrong)

    def test_long_numbers_can_be_written(self):
        self.assertEqual(written((10 ** 3000, 1)), "1" + "0" * 3000)


if __name__ == "__main__":
    unittest.main()
