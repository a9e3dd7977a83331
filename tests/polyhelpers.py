"""Polynomials worked out with fractions: of tables, by all permutations; and their roots, counted by remainders."""

from fractions import Fraction
from itertools import combinations, permutations

from helpers import frac, num


def fractions(poly):
    return [frac(number) for number in poly]


def numbers(poly):
    return tuple(num(value) for value in poly)


def product_of(one, other):
    found = [Fraction(0)] * (len(one) + len(other) - 1)
    for at, value in enumerate(one):
        for place, factor in enumerate(other):
            found[at + place] += value * factor
    return found


def sum_of(one, other):
    size = max(len(one), len(other))
    one = [Fraction(0)] * (size - len(one)) + list(one)
    other = [Fraction(0)] * (size - len(other)) + list(other)
    return [value + more for value, more in zip(one, other)]


def value_of(poly, value):
    return sum((factor * value ** power for power, factor in enumerate(poly[::-1])), Fraction(0))


def trimmed(poly):
    while poly and poly[0] == 0:
        poly = poly[1:]
    return poly


def plain_poly(table, start=0):
    """The determinant of x on the diagonal less the rows and columns from start on, the highest power first."""
    places = list(range(start, table.high))
    total = [Fraction(0)]
    for order in permutations(places):
        sign = (-1) ** sum(one > other for one, other in combinations(order, 2))
        share = [Fraction(sign)]
        for row, column in zip(places, order):
            factor = [-frac(table.rows[row][column])]
            share = product_of(share, [Fraction(1)] + factor if row == column else factor)
        total = sum_of(total, share)
    return [Fraction(0)] * (len(places) + 1 - len(total)) + total


def remainder(one, other):
    left = list(one)
    while len(left) >= len(other):
        factor = left[0] / other[0]
        left = [value - factor * part for value, part in zip(left, other + [Fraction(0)] * len(left))][1:]
    return trimmed(left)


def shared(one, other):
    """The greatest common divisor, with 1 as its first coefficient."""
    while other:
        one, other = other, remainder(one, other)
    return [value / one[0] for value in one]


def quotient(one, other):
    found, left = [], list(one)
    while len(left) >= len(other):
        found.append(left[0] / other[0])
        left = [value - found[-1] * part for value, part in zip(left, other + [Fraction(0)] * len(left))][1:]
    return found


def slope_of(poly):
    return [value * power for value, power in zip(poly, range(len(poly) - 1, 0, -1))]


def count_changes(values):
    signs = [value > 0 for value in values if value]
    return sum(one != other for one, other in zip(signs, signs[1:]))


def distinct_above(poly, value):
    """How many different numbers above the value are roots, by the row of remainders."""
    chain = [poly, slope_of(poly)]
    while chain[-1]:
        chain.append([-part for part in remainder(chain[-2], chain[-1])])
    chain = [part for part in chain if part]
    return count_changes([value_of(part, value) for part in chain]) - count_changes([part[0] for part in chain])


def roots_above(poly, value):
    """How many roots are above the value, each as often as it is one."""
    many = 0
    while len(poly) > 1:
        common = shared(poly, slope_of(poly))
        # Each different root once, then what is left of them.
        many += distinct_above(quotient(poly, common), value)
        poly = common
    return many


def roots_at(poly, value):
    many = 0
    while len(poly) > 1 and value_of(poly, value) == 0:
        poly = quotient(poly, [Fraction(1), -value])
        many += 1
    return many
