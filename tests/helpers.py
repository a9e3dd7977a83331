"""What several tests use: other ways to work out what the program promises, and many tables."""

import random
import unittest
from fractions import Fraction
from itertools import combinations, permutations

from minusless.errors import MinusError
from minusless.tables import Table

WRONG_INTEGERS = (True, False, 1.0, "1", None, (1,), -1)


def num(value):
    """The number of a Fraction or an integer."""
    value = Fraction(value)
    return (value.numerator, value.denominator)


def frac(number):
    return Fraction(number[0], number[1])


def table_of(rows):
    """The Table of rows of Fractions or integers."""
    return Table([[num(value) for value in row] for row in rows])


def fractions_of(table):
    return [[frac(number) for number in row] for row in table.rows]


def all_lots_of(size, many):
    return list(combinations(range(size), many))


def lot_pairs_of(high, wide, least=1):
    return [(rows, columns) for many in range(least, min(high, wide) + 1)
            for rows in all_lots_of(high, many) for columns in all_lots_of(wide, many)]


def plain_minor(table, rows, columns):
    """A minor by all permutations, as a number."""
    total = Fraction(0)
    for order in permutations(range(len(rows))):
        sign = (-1) ** sum(1 for a, b in combinations(order, 2) if a > b)
        share = Fraction(sign)
        for place, row in enumerate(rows):
            share *= frac(table.rows[row][columns[order[place]]])
        total += share
    return num(total)


def plain_good(table):
    return all(plain_minor(table, rows, columns)[0] >= 0 for rows, columns in lot_pairs_of(table.high, table.wide))


def sizes(most):
    return [(high, wide) for high in range(1, most + 1) for wide in range(1, most + 1)]


def random_number(rng, low=-3, high=3, noughts=0.4):
    if rng.random() < noughts:
        return (0, 1)
    return num(Fraction(rng.randint(low, high), rng.randint(1, 3)))


def random_table(rng, high, wide, low=-3, noughts=0.4):
    return Table([[random_number(rng, low, 3, noughts) for _ in range(wide)] for _ in range(high)])


def tables_of_any_sign(count, most=4, seed=1):
    rng = random.Random(seed)
    return [random_table(rng, rng.randint(1, most), rng.randint(1, most), noughts=rng.choice((0.1, 0.4, 0.7)))
            for _ in range(count)]


def plain_stair(rows):
    """Whether rows of 0 and 1 are a stair, in the words of the document."""
    for at, row in enumerate(rows):
        for column, box in enumerate(row):
            left = any(row[:column])
            above = any(other[column] for other in rows[:at])
            if not box and left and above:
                return False
    return True


def all_patterns(high, wide):
    for number in range(2 ** (high * wide)):
        yield tuple(tuple(number >> (row * wide + column) & 1 for column in range(wide)) for row in range(high))


def good_tables(count, most=4, seed=2):
    """Good tables, as products of tables with two neighbouring diagonals that have no number below 0."""
    rng = random.Random(seed)
    found = []
    while len(found) < count:
        high, wide = rng.randint(1, most), rng.randint(1, most)
        rows = [[Fraction(int(row == column)) for column in range(wide)] for row in range(high)]
        for _ in range(rng.randint(0, 9)):
            amount = Fraction(rng.randint(1, 3), rng.randint(1, 2))
            if rng.random() < 0.5 and high > 1:
                at = rng.randrange(high - 1)
                to, start = rng.choice(((at, at + 1), (at + 1, at)))
                rows[to] = [a + amount * b for a, b in zip(rows[to], rows[start])]
            elif wide > 1:
                at = rng.randrange(wide - 1)
                to, start = rng.choice(((at, at + 1), (at + 1, at)))
                for row in rows:
                    row[to] += amount * row[start]
        if rng.random() < 0.3:
            rows[rng.randrange(high)] = [Fraction(0)] * wide
        found.append(table_of(rows))
    return found


class Case(unittest.TestCase):
    """A test that can ask for an error with just these attributes."""

    def refuses(self, wanted, call, *args, **named):
        with self.assertRaises(MinusError) as caught:
            call(*args, **named)
        error = caught.exception
        self.assertIs(type(error), type(wanted))
        self.assertEqual(list(vars(error)), list(vars(wanted)))
        for name, value in vars(wanted).items():
            held = getattr(error, name)
            self.assertIs(type(held), type(value), (name, held, value))
            self.assertEqual(held, value, name)
        return error
