"""Codes and words worked out from the words of the document, and solid tables of each pair of codes."""

import random
from fractions import Fraction
from itertools import product

from helpers import num, table_of
from minusless.codes import stair_of_codes
from stairhelpers import good_on

WRONG_WORDS = (None, 1, "", "01", {0: 0}, 1.0)
WRONG_LETTERS = (-1, None, True, False, 1.0, "0", (0,), [0])


def plain_codes(size):
    """All codes of the size, ascending."""
    return list(product(*[range(place + 1) for place in range(size)]))


CODES = [code for size in range(1, 5) for code in plain_codes(size)]


def plain_letter(code, letter):
    """The code behind the letter, as a tuple."""
    here, there = code[letter], code[letter + 1]
    if here < there:
        return code[:letter] + (there - 1, here) + code[letter + 2:]
    return tuple(code)


def plain_code(word, size):
    code = tuple(range(size))
    for letter in word:
        code = plain_letter(code, letter)
    return code


def plain_length(code):
    return sum(place - value for place, value in enumerate(code))


def plain_shortest(word, size):
    return plain_length(plain_code(word, size)) == len(word)


def words_up_to(size, most):
    """All words of at most so many letters."""
    return [word for many in range(most + 1) for word in product(range(size - 1), repeat=many)]


def shortest_words_of(size, most):
    """A dict: for each code all its shortest words of at most so many letters, ascending."""
    found = {}
    for word in words_up_to(size, most):
        if plain_shortest(word, size):
            found.setdefault(plain_code(word, size), []).append(word)
    return {code: sorted(held) for code, held in found.items()}


def amounts_for(rng, word):
    return tuple(num(Fraction(rng.randint(1, 5), rng.randint(1, 3))) for _ in word)


def plain_word_table(word, amounts, size):
    """The unit table behind the steps down, one row added to the next, over and over."""
    rows = [[Fraction(int(row == column)) for column in range(size)] for row in range(size)]
    for letter, amount in zip(word, amounts):
        factor = Fraction(*amount)
        rows[letter + 1] = [low + factor * high for low, high in zip(rows[letter + 1], rows[letter])]
    return table_of(rows)


def solid_tables(most, seed=1):
    """(row code, column code, table) for each pair of codes of each size up to the most."""
    rng = random.Random(seed)
    return [(rows_code, columns_code, good_on(rng, stair_of_codes(rows_code, columns_code)))
            for size in range(1, most + 1)
            for rows_code in plain_codes(size) for columns_code in plain_codes(size)]
