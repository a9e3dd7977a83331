"""Words: letters that turn a code, and the tables that they make."""

from minusless.checks import is_from, is_series
from minusless.codes import check_code, check_code_size, column_code, least_code, row_code, solid_stair
from minusless.errors import BadCode, BadNumber, BadWord, OtherSize
from minusless.numbers import is_number, sign_of
from minusless.runs import Run
from minusless.steps import ColumnStep, RowStep, step_on
from minusless.tables import Table
from minusless.takingback import most_back
from minusless.threeparts import three_parts


def check_letters(word, size):
    """Return the word as a tuple, for a size that has been checked."""
    if not is_series(word):
        raise BadWord(-1)
    for place, letter in enumerate(word):
        if not is_from(letter, 0, size - 2):
            raise BadWord(place)
    return tuple(word)


def check_word(word, size):
    """Return the word as a tuple."""
    check_code_size(size)
    return check_letters(word, size)


def check_letter(letter, size):
    """Refuse what is no letter."""
    if not is_from(letter, 0, size - 2):
        raise BadWord(-1)


def check_amounts(amounts, word):
    """Return the amounts for the letters of a word as a tuple."""
    if not is_series(amounts):
        raise BadNumber(-1)
    for place, amount in enumerate(amounts):
        if not is_number(amount) or sign_of(amount) < 1:
            raise BadNumber(place)
    if len(word) != len(amounts):
        raise OtherSize(len(word), len(amounts))
    return tuple(amounts)


def idles(code, letter):
    """Tell whether the letter leaves the code as it is."""
    return code[letter] >= code[letter + 1]


def turned_by(code, letter):
    """Return the code behind the letter."""
    if idles(code, letter):
        return code
    return code[:letter] + (code[letter + 1] - 1, code[letter]) + code[letter + 2:]


def turned_back(code, letter):
    """Return the code that the letter turns into this one, for a letter that is idle here."""
    return code[:letter] + (code[letter + 1], code[letter] + 1) + code[letter + 2:]


def after_letter(code, letter):
    """Return the code behind the letter."""
    found = check_code(code)
    check_letter(letter, len(found))
    return turned_by(found, letter)


def is_idle(code, letter):
    """Tell whether the letter leaves the code as it is."""
    found = check_code(code)
    check_letter(letter, len(found))
    return idles(found, letter)


def behind_letters(code, letters):
    """Return the code behind the letters, done in their order."""
    found = code
    for letter in letters:
        found = turned_by(found, letter)
    return found


def code_of_word(word, size):
    """Return the code of the word."""
    return behind_letters(least_code(size), check_word(word, size))


def idle_places(word, size):
    """Return the places whose letter is idle when the word is done."""
    code = least_code(size)
    places = ()
    for place, letter in enumerate(check_word(word, size)):
        if idles(code, letter):
            places = places + (place,)
        code = turned_by(code, letter)
    return places


def is_shortest(word, size):
    """Tell whether no letter of the word is idle."""
    return len(idle_places(word, size)) == 0


def shortest_word(code):
    """Return the shortest word of the code that always takes the least letter back."""
    left = check_code(code)
    letters = ()
    idle = idle_letters(left)
    while len(idle) > 0:
        letters = (idle[0],) + letters
        left = turned_back(left, idle[0])
        idle = idle_letters(left)
    return letters


def idle_letters(code):
    """Return the letters that are idle at the code, rising."""
    return [letter for letter in range(len(code) - 1) if idles(code, letter)]


def steps_of(letters, amounts):
    """Return the steps down at the letters with these amounts."""
    return [RowStep(letter, amount) for letter, amount in zip(letters, amounts)]


def table_of_letters(letters, amounts, size):
    """Return the unit table behind the steps down at the letters."""
    return Run(steps_of(letters, amounts)).done(Table.unit(size))


def word_table(word, amounts, size):
    """Return the table of the word with these amounts."""
    letters = check_word(word, size)
    return table_of_letters(letters, check_amounts(amounts, letters), size)


def amounts_in(lower, letters):
    """Return the amounts with which the letters make the table, one of whose shortest words they are."""
    left = lower
    amounts = ()
    # The table ahead of the last letter has its code alone, so just the most of it is taken back.
    for letter in letters[::-1]:
        amount = most_back(left, "down", letter)
        left = step_on(left, "down", letter, amount, back=True)
        amounts = (amount,) + amounts
    return amounts


def amounts_of(table, word):
    """Return the amounts with which the word makes the lower part of the solid table."""
    code = row_code(table)
    size = len(code)
    letters = check_letters(word, size)
    idle = idle_places(letters, size)
    if len(idle) > 0:
        raise BadWord(idle[0])
    if behind_letters(least_code(size), letters) != code:
        raise BadCode(-1)
    return amounts_in(three_parts(table)[0], letters)


def least_steps(table):
    """Return the least number of steps that lead from a diagonal table to the solid table."""
    return solid_stair(table).many - table.high


def least_run(table):
    """Return the diagonal part of the solid table, and a run with the least number of steps that leads to the table."""
    down = shortest_word(row_code(table))
    right = shortest_word(column_code(table))
    lower, middle, upper = three_parts(table)
    row_steps = steps_of(down, amounts_in(lower, down))
    amounts = amounts_in(upper.turned(), right)
    column_steps = [ColumnStep(letter, amount) for letter, amount in zip(right, amounts)]
    return (middle, Run(row_steps + column_steps))
