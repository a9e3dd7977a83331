"""Roots of good square tables, counted by changes of sign."""

from minusless.checks import check_want
from minusless.errors import TooMany
from minusless.greedy import company_in
from minusless.lots import all_lots
from minusless.mainrule import good_core
from minusless.minors import check_square
from minusless.numbers import NOUGHT, check_number, lowest, plus
from minusless.polynomials import MOST_ROWS, low_noughts, poly_changes, root_poly, shifted_by, trail
from minusless.results import check_square_stair

MOST_UNDER = 1000000


def check_rooted(table):
    """Refuse a table that is not square, not good or has more than 6 rows."""
    check_square(table)
    good_core(table)
    if table.high > MOST_ROWS:
        raise TooMany(MOST_ROWS)


def check_under(under):
    """Refuse what is no integer from 1 to 1000000."""
    check_want(under, 1, MOST_UNDER, "under")


def above_count(table, number):
    """Return how many roots are above the number."""
    check_rooted(table)
    check_number(number)
    return poly_changes(shifted_by(root_poly(table), number))


def at_count(table, number):
    """Return how often the number is a root."""
    check_rooted(table)
    check_number(number)
    return low_noughts(shifted_by(root_poly(table), number))


def by_turns(table, number):
    """Return how many roots of the polynomials of the last 0, 1, .., n rows are above the number."""
    check_rooted(table)
    check_number(number)
    return tuple([poly_changes(shifted_by(poly, number)) for poly in trail(table)])


def count_from(poly, number):
    """Return how many roots of the polynomial are the number or above it."""
    moved = shifted_by(poly, number)
    return poly_changes(moved) + low_noughts(moved)


def floor_of(table, poly, place, under):
    """Return the greatest integer k such that at least place + 1 roots of the table are at least k / under."""
    total = NOUGHT
    for at in range(table.high):
        total = plus(total, table.rows[at][at])
    # All roots together come to the diagonal and none is below 0, so each is less than the first number beyond.
    low = 0
    high = total[0] * under // total[1] + 1
    while high - low > 1:
        middle = (low + high) // 2
        if count_from(poly, lowest(middle, under)) > place:
            low = middle
        else:
            high = middle
    return low


def root_floor(table, place, under):
    """Return the greatest integer k such that at least place + 1 roots are at least k / under."""
    check_rooted(table)
    check_want(place, 0, table.high - 1, "place")
    check_under(under)
    return floor_of(table, root_poly(table), place, under)


def nonzero_roots(table):
    """Return how many roots are above 0."""
    return above_count(table, NOUGHT)


def own_size(stair):
    """Return the greatest size of a lot from which the stair has a company to the same lot."""
    check_square_stair(stair)
    if stair.high > MOST_ROWS:
        raise TooMany(MOST_ROWS)
    size = stair.high
    return max([len(lot) for lot in all_lots(size) if company_in(stair, lot, lot) is not None])


def root_words(table, under):
    """Return the strings of the roots, rounded down to so many parts of 1."""
    check_rooted(table)
    check_under(under)
    poly = root_poly(table)
    return tuple([f"{floor_of(table, poly, place, under)}/{under}" for place in range(table.high)])
