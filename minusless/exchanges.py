"""Exchanges of letters that leave the table of a word as it is."""

from minusless.checks import check_want
from minusless.codes import code_length, least_code, order_of
from minusless.errors import BadWord, NoStep, TooMany
from minusless.numbers import over, plus, times
from minusless.tables import LIMIT
from minusless.words import (amounts_in, behind_letters, check_amounts, check_letters, check_word, is_shortest,
                             shortest_word, table_of_letters)

MOST_LETTERS = 10


def kind_of_exchange(letters, place):
    """Return "far" or "turn" for the exchange at the place, None if there is none."""
    here = letters[place:place + 3]
    if len(here) > 1 and abs(here[0] - here[1]) >= 2:
        return "far"
    if len(here) == 3 and here[0] == here[2] and abs(here[0] - here[1]) == 1:
        return "turn"
    return None


def may_exchange(word, place):
    """Return "far" or "turn" if such an exchange is possible at the place, else None."""
    letters = check_letters(word, LIMIT)
    check_want(place, 0, len(letters) - 1, "place")
    return kind_of_exchange(letters, place)


def exchanged(word, amounts, place):
    """Return the word and the amounts behind the exchange at the place."""
    letters = check_letters(word, LIMIT)
    numbers = check_amounts(amounts, letters)
    check_want(place, 0, len(letters) - 1, "place")
    kind = kind_of_exchange(letters, place)
    if kind is None:
        raise NoStep()
    if kind == "far":
        return (pair_exchanged(letters, place), pair_exchanged(numbers, place))
    one, other, _ = letters[place:place + 3]
    turned = (other, one, other)
    changed = amounts_turned(numbers[place:place + 3])
    return (letters[:place] + turned + letters[place + 3:], numbers[:place] + changed + numbers[place + 3:])


def pair_exchanged(row, place):
    """Return the row with the two things from the place on exchanged."""
    return row[:place] + (row[place + 1], row[place]) + row[place + 2:]


def amounts_turned(three):
    """Return the three amounts behind a turn."""
    one, middle, other = three
    both = plus(one, other)
    return (over(times(middle, other), both), both, over(times(one, middle), both))


def shortened(word, amounts, size):
    """Return a shortest word with the same table, and its amounts."""
    letters = check_word(word, size)
    numbers = check_amounts(amounts, letters)
    found = shortest_word(behind_letters(least_code(size), letters))
    return (found, amounts_in(table_of_letters(letters, numbers, size), found))


def leading_letters(order):
    """Return the letters with which the shortest words of the order begin, rising."""
    return [letter for letter in range(len(order) - 1) if order.index(letter + 1) < order.index(letter)]


def without_leading(order, letter):
    """Return the order of what is left of a shortest word without this letter, which leads it."""
    exchanged_numbers = {letter: letter + 1, letter + 1: letter}
    return tuple([exchanged_numbers.get(number, number) for number in order])


def words_behind(order, letters):
    """Yield the letters followed by each shortest word of the order, ascending."""
    leading = leading_letters(order)
    if len(leading) == 0:
        yield letters
        return
    for letter in leading:
        rest = without_leading(order, letter)
        longer = letters + (letter,)
        yield from words_behind(rest, longer)


def shortest_words(code):
    """Yield all shortest words of the code, ascending."""
    if code_length(code) > MOST_LETTERS:
        raise TooMany(MOST_LETTERS)
    order = order_of(code)
    yield from words_behind(order, ())


def word_beginning(order, letters):
    """Return a shortest word of the order that begins with these letters."""
    rest = order
    for letter in letters:
        rest = without_leading(rest, letter)
    word = letters
    leading = leading_letters(rest)
    while len(leading) > 0:
        word = word + (leading[0],)
        rest = without_leading(rest, leading[0])
        leading = leading_letters(rest)
    return word


def chain_between(one, other, order):
    """Return a chain of exchanges from one shortest word of the order to another."""
    if one == other:
        return (one,)
    first, last = (one[0], other[0])
    if first == last:
        rest = without_leading(order, first)
        return tuple([(first,) + word for word in chain_between(one[1:], other[1:], rest)])
    # Two letters that both lead shortest words are ahead of one, in each of two ways that one exchange joins.
    near = abs(first - last) == 1
    here = word_beginning(order, (first, last, first) if near else (first, last))
    there = (last, first, last) + here[3:] if near else (last, first) + here[2:]
    # All words of the one part begin with first and all of the other with last, so none stands twice.
    return chain_between(one, here, order) + chain_between(there, other, order)


def exchange_chain(one, other, size):
    """Return words from one to other, each one exchange behind the one before, none of them twice."""
    start = check_word(one, size)
    stop = check_word(other, size)
    code = behind_letters(least_code(size), start)
    if not is_shortest(start, size) or not is_shortest(stop, size):
        raise BadWord(-1)
    if behind_letters(least_code(size), stop) != code:
        raise BadWord(-1)
    if len(start) > MOST_LETTERS:
        raise TooMany(MOST_LETTERS)
    return chain_between(start, stop, order_of(code))
