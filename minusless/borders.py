"""Which codes lie below which: the cells in the border of a cell."""

from minusless.codes import check_code, check_code_pair, codes_listed, order_of
from minusless.errors import BadCode, TooMany
from minusless.lots import check_lot
from minusless.steps import check_amount
from minusless.words import (behind_letters, check_amounts, check_word, idles, shortest_word, table_of_letters,
                             turned_back)

MOST_SIZE = 5


def reaches_of(code):
    """Return the reaches of the code at all (row, column), row by row."""
    order = order_of(code)
    size = len(order)
    return [[len([number for number in order[row:] if number <= column]) for column in range(size)]
            for row in range(size)]


def first_greater(lesser, greater):
    """Return the first (row, column) at which lesser has a greater reach than greater, None if there is none."""
    for row, (one, other) in enumerate(zip(reaches_of(lesser), reaches_of(greater))):
        for column in range(len(one)):
            if one[column] > other[column]:
                return (row, column)
    return None


def is_below(lesser, greater):
    """Tell whether the code lesser is below the code greater, by comparing reaches."""
    one, other = check_code_pair(lesser, greater)
    return first_greater(one, other) is None


def below_by_words(lesser, greater):
    """Tell whether the code lesser is below the code greater, by leaving letters out of a shortest word."""
    left, other = check_code_pair(lesser, greater)
    # If some choice of letters does, so does the one that leaves out none of the last letters that may stay.
    for letter in shortest_word(other)[::-1]:
        if idles(left, letter):
            left = turned_back(left, letter)
    return len(shortest_word(left)) == 0


def codes_below(code):
    """Return all codes below the code, itself too, ascending."""
    greater = check_code(code)
    size = len(greater)
    if size > MOST_SIZE:
        raise TooMany(MOST_SIZE)
    return tuple([lesser for lesser in codes_listed(size) if first_greater(lesser, greater) is None])


def nearing(word, amounts, kept, number, size):
    """Return the table of the word with the number as the amount at each place that is not kept."""
    letters = check_word(word, size)
    old = check_amounts(amounts, letters)
    places = check_lot(kept, len(letters))
    small = check_amount(number)
    changed = [amount if place in places else small for place, amount in enumerate(old)]
    return table_of_letters(letters, changed, size)


def border_table(word, amounts, kept, size):
    """Return the table of the letters at the kept places alone."""
    letters = check_word(word, size)
    old = check_amounts(amounts, letters)
    places = check_lot(kept, len(letters))
    return table_of_letters([letters[place] for place in places], [old[place] for place in places], size)


def telling_corner(lesser, greater):
    """Return the first (row, column) at which lesser has a greater reach than greater, None if there is none."""
    one, other = check_code_pair(lesser, greater)
    return first_greater(one, other)


def telling_noughts(lesser, greater):
    """Return the lots of a minor that is above 0 for the row code lesser and nought for the row code greater."""
    corner = telling_corner(lesser, greater)
    if corner is None:
        raise BadCode(-1)
    row, column = corner
    order = order_of(lesser)
    rows = [place for place in range(row, len(order)) if order[place] <= column]
    return (tuple(rows), tuple(sorted([order[place] for place in rows])))


def star(one, other):
    """Return the code behind the letters of a shortest word of one, done on the code other."""
    first, code = check_code_pair(one, other)
    return behind_letters(code, shortest_word(first))
