import random
import unittest
from itertools import product

from helpers import WRONG_INTEGERS, Case
from minusless.errors import BadCode, BadNumber, BadWant, BadWord, NoStep, OtherSize, TooMany
from minusless.exchanges import exchange_chain, exchanged, may_exchange, shortened, shortest_words
from minusless.words import amounts_of, shortest_word, word_table
from stephelpers import WRONG_AMOUNTS
from wordhelpers import (WRONG_LETTERS, WRONG_WORDS, amounts_for, plain_code, plain_length, plain_word_table,
                         shortest_words_of, words_up_to)

ONE = (1, 1)
WORDS = words_up_to(4, 5) + words_up_to(5, 3)
GREATEST = {size: (0,) * size for size in range(1, 7)}
MANY_WORDS = {1: 1, 2: 1, 3: 2, 4: 16, 5: 768}


def plain_kind(word, place):
    if place + 1 < len(word) and abs(word[place] - word[place + 1]) >= 2:
        return "far"
    if place + 2 < len(word) and word[place] == word[place + 2] and abs(word[place] - word[place + 1]) == 1:
        return "turn"
    return None


def plain_exchange(word, place):
    kind = plain_kind(word, place)
    if kind == "far":
        return word[:place] + (word[place + 1], word[place]) + word[place + 2:]
    if kind == "turn":
        return word[:place] + (word[place + 1], word[place], word[place + 1]) + word[place + 3:]
    return None


class Exchanges(Case):
    def test_every_place(self):
        rng = random.Random(1)
        kinds = {"far": 0, "turn": 0, None: 0}
        for word in WORDS:
            amounts = amounts_for(rng, word)
            for place in range(len(word)):
                kind = plain_kind(word, place)
                kinds[kind] += 1
                self.assertEqual(may_exchange(list(word), place), kind)
                if kind is None:
                    self.refuses(NoStep(), exchanged, word, amounts, place)
                    continue
                changed, numbers = exchanged(list(word), list(amounts), place)
                self.assertEqual(exchanged(word=word, amounts=amounts, place=place), (changed, numbers))
                self.assertEqual(changed, plain_exchange(word, place))
                self.assertEqual(plain_word_table(changed, numbers, 5), plain_word_table(word, amounts, 5))
                if kind == "far":
                    self.assertEqual(sorted(numbers), sorted(amounts))
        self.assertGreater(min(kinds.values()), 100)
        self.assertEqual(may_exchange(word=(10, 0), place=0), "far")
        self.assertEqual(exchanged((10, 0), [(2, 1), (3, 1)], 0), ((0, 10), ((3, 1), (2, 1))))

    def test_errors_of_may_exchange(self):
        for wrong in WRONG_WORDS:
            self.refuses(BadWord(-1), may_exchange, wrong, None)
        for wrong in WRONG_LETTERS + (11,):
            self.refuses(BadWord(1), may_exchange, (10, wrong), None)
        for wrong in WRONG_INTEGERS + (3,):
            self.refuses(BadWant("place"), may_exchange, (0, 5, 0), wrong)
        self.refuses(BadWant("place"), may_exchange, (), 0)

    def test_errors_of_exchanged(self):
        for wrong in WRONG_WORDS:
            self.refuses(BadWord(-1), exchanged, wrong, None, None)
        for wrong in WRONG_LETTERS + (11,):
            self.refuses(BadWord(0), exchanged, (wrong, 11), None, None)
        self.refuses(BadNumber(-1), exchanged, (0, 1), None, None)
        for wrong in WRONG_AMOUNTS:
            self.refuses(BadNumber(1), exchanged, (0, 0), [ONE, wrong, None], None)
        self.refuses(OtherSize(2, 3), exchanged, (0, 0), [ONE] * 3, None)
        for wrong in WRONG_INTEGERS + (2,):
            self.refuses(BadWant("place"), exchanged, (0, 0), [ONE] * 2, wrong)
        self.refuses(NoStep(), exchanged, (0, 1), [ONE] * 2, 0)
        self.refuses(NoStep(), exchanged, (0, 1, 0), [ONE] * 3, 2)


class Shortened(Case):
    def test_against_the_table(self):
        rng = random.Random(2)
        for size, most in ((1, 0), (2, 4), (3, 5), (4, 4)):
            for word in words_up_to(size, most):
                amounts = amounts_for(rng, word)
                table = plain_word_table(word, amounts, size)
                found, numbers = shortened(list(word), list(amounts), size)
                self.assertEqual(found, shortest_word(plain_code(word, size)))
                self.assertEqual(numbers, amounts_of(table, found))
                self.assertEqual(word_table(found, numbers, size), table)
        self.assertEqual(shortened(word=(0, 0), amounts=((1, 2), (1, 3)), size=2), ((0,), ((5, 6),)))

    def test_errors(self):
        self.refuses(BadWant("size"), shortened, None, None, 13)
        self.refuses(BadWord(1), shortened, (0, 2), None, 3)
        self.refuses(BadNumber(1), shortened, (0, 1), (ONE, (0, 1)), 3)
        self.refuses(OtherSize(1, 2), shortened, (0,), (ONE, ONE), 3)


class ShortestWords(Case):
    def test_all_and_no_other(self):
        for size, most in ((1, 0), (2, 1), (3, 3), (4, 6), (5, 4)):
            for code, words in shortest_words_of(size, most).items():
                self.assertEqual(list(shortest_words(list(code))), words)
                self.assertEqual(list(shortest_words(code=code)), words)

    def test_greatest(self):
        for size, many in MANY_WORDS.items():
            words = list(shortest_words(GREATEST[size]))
            self.assertEqual(len(set(words)), many)
            self.assertEqual(words, sorted(words))
            self.assertTrue(all(plain_code(word, size) == GREATEST[size] for word in words))

    def test_bounds(self):
        self.assertEqual(len(next(shortest_words((0, 0, 0, 0, 0)))), 10)
        self.assertEqual(len(next(shortest_words((0, 1, 1, 1, 1, 1)))), 10)
        for code in ((0, 0, 0, 0, 0, 4), (0, 0, 0, 0, 0, 0), (0,) * 12):
            self.assertGreater(plain_length(code), 10)
            self.refuses(TooMany(10), lambda code: list(shortest_words(code)), code)
        for wrong, place in ((None, -1), ((), -1), ((0, 0, 3), 2)):
            self.refuses(BadCode(place), lambda wrong: list(shortest_words(wrong)), wrong)


class Chains(Case):
    def check_chain(self, one, other, size):
        chain = exchange_chain(list(one), other, size)
        self.assertIs(type(chain), tuple)
        self.assertEqual((chain[0], chain[-1], len(set(chain))), (tuple(one), tuple(other), len(chain)))
        for word, behind in zip(chain, chain[1:]):
            self.assertIn(behind, [plain_exchange(word, place) for place in range(len(word))])

    def test_all_pairs(self):
        for size, most in ((1, 0), (2, 1), (3, 3), (4, 6)):
            for words in shortest_words_of(size, most).values():
                for one, other in product(words, repeat=2):
                    self.check_chain(one, other, size)
        self.assertEqual(exchange_chain(one=(0, 1), other=(0, 1), size=3), ((0, 1),))
        self.assertEqual(exchange_chain((), (), 1), ((),))

    def test_ten_letters(self):
        rng = random.Random(3)
        words = list(shortest_words(GREATEST[5]))
        for _ in range(60):
            self.check_chain(rng.choice(words), rng.choice(words), 5)
        self.check_chain(words[0], words[-1], 5)

    def test_errors(self):
        self.refuses(BadWant("size"), exchange_chain, None, None, 0)
        for wrong in WRONG_WORDS:
            self.refuses(BadWord(-1), exchange_chain, wrong, (5,), 3)
            self.refuses(BadWord(-1), exchange_chain, (0,), wrong, 3)
        for wrong in WRONG_LETTERS + (2,):
            self.refuses(BadWord(0), exchange_chain, (wrong,), (0, 2), 3)
            self.refuses(BadWord(1), exchange_chain, (0,), (1, wrong), 3)
        self.refuses(BadWord(-1), exchange_chain, (0, 0), (0,), 3)
        self.refuses(BadWord(-1), exchange_chain, (0,), (0, 0), 3)
        self.refuses(BadWord(-1), exchange_chain, (0, 0), (0, 0), 3)
        self.refuses(BadWord(-1), exchange_chain, (0,), (1,), 3)
        self.refuses(BadWord(-1), exchange_chain, (0, 1), (1, 0), 3)
        self.refuses(BadWord(-1), exchange_chain, (0, 1), (0,), 3)

    def test_more_than_ten_letters(self):
        word = shortest_word(GREATEST[6])
        self.refuses(TooMany(10), exchange_chain, word[:11], word[:11], 6)
        self.check_chain(word[:10], word[:10], 6)
        self.refuses(BadWord(-1), exchange_chain, word, word[:11], 6)
        self.refuses(BadWord(-1), exchange_chain, word + (0,), word + (0,), 6)


if __name__ == "__main__":
    unittest.main()
