"""Changes of sign and the sign rules, worked out from the words of the document."""

from itertools import product

from helpers import frac, num

WRONG_ROWS = ((None, -1), (1, -1), ("", -1), ({}, -1), ([(0, 1), 1], 1), ([None, 1], 0), ([(2, 4)], 0),
              (((1, 1), (1, 1), (1, 1), (1, 0)), 3), ([[1, 1]], 0), ([(True, 1)], 0))


def signs_of(row):
    return [(number[0] > 0) - (number[0] < 0) for number in row]


def plain_changes(row):
    full = [sign for sign in signs_of(row) if sign]
    return sum(one != other for one, other in zip(full, full[1:])) if full else -1


def plain_begins(row):
    return next((sign for sign in signs_of(row) if sign), 0)


def plain_ends(row):
    return plain_begins(row[::-1])


def choices_of(row):
    """All choices of signs, the one with -1 at the first place where they differ first."""
    return list(product(*[(-1, 1) if sign == 0 else (sign,) for sign in signs_of(row)]))


def count(choice):
    return sum(one != other for one, other in zip(choice, choice[1:])) if choice else -1


def plain_most(row):
    return max(count(choice) for choice in choices_of(row))


def plain_taken(table, row):
    return tuple(num(sum(frac(one) * frac(other) for one, other in zip(line, row))) for line in table.rows)


def plain_rule(table, row):
    found = plain_taken(table, row)
    if plain_changes(found) == plain_changes(row) != -1:
        return plain_begins(found) == plain_begins(row)
    return plain_changes(found) <= plain_changes(row)


def plain_strict(table, row):
    found = plain_taken(table, row)
    most = plain_most(found)
    if most != plain_changes(row):
        return most < plain_changes(row)
    return all(choice[0] == plain_begins(row) for choice in choices_of(found) if count(choice) == most)


def sign_rows(size):
    """All rows of the numbers -1, 0 and 1, ascending."""
    return list(product(((-1, 1), (0, 1), (1, 1)), repeat=size))
