"""Part-empty tables for the tests, and what the document's words say of them."""

import random
from itertools import product

from helpers import num, random_number, random_table
from minusless.blanks import PartTable
from minusless.making import made
from minusless.tables import Table
from minusless.unmaking import unmade
from stairhelpers import STAIRS, good_on, plain_road_lots, tree_order_of

NOUGHT = (0, 1)


def shapes(high, wide):
    """All shapes that a part-empty table of this size may have."""
    return [shape for shape in product(range(wide + 1), repeat=high)
            if all(one >= other for one, other in zip(shape, shape[1:])) and shape[-1] < wide]


def rows_with_blanks(table, shape):
    return [[None] * many + list(row[many:]) for many, row in zip(shape, table.rows)]


def random_shape(rng, high, wide):
    return rng.choice(shapes(high, wide))


def parts_of_good(count, most=3, seed=1):
    """(part-empty table, good table that agrees with it)."""
    rng = random.Random(seed)
    stairs = [stair for stair in STAIRS if stair.high <= most and stair.wide <= most]
    found = []
    for _ in range(count):
        table = good_on(rng, rng.choice(stairs))
        found.append((PartTable(rows_with_blanks(table, random_shape(rng, table.high, table.wide))), table))
    return found


def parts_of_any(count, most=4, seed=1):
    """Part-empty tables, some with a good filling and some without, few of them with many blanks."""
    rng = random.Random(seed)
    found = []
    for _ in range(count):
        high, wide = rng.randint(rng.randint(1, 3), most), rng.randint(rng.randint(1, 3), most)
        core = random_table(rng, high, wide, low=rng.choice((0, 0, 0, -1)), noughts=rng.choice((0.1, 0.2, 0.5)))
        table = made(core) if rng.random() < 0.7 else core
        few = [shape for shape in shapes(high, wide) if 3 * sum(shape) <= high * wide]
        shape = rng.choice(few) if rng.random() < 0.7 else random_shape(rng, high, wide)
        found.append(PartTable(rows_with_blanks(table, shape)))
    return found


def parts_nearly_good(count, size=4, seed=1):
    """Part-empty tables of which one number of the core is at fault, or just one, most others being full."""
    rng = random.Random(seed)
    found = []
    for _ in range(count):
        rows = [[num(rng.randint(1, 4)) for _ in range(size)] for _ in range(size)]
        rows[rng.randrange(size)][rng.randrange(size)] = rng.choice((NOUGHT, (-1, 2)))
        few = [shape for shape in shapes(size, size) if sum(shape) <= 3]
        found.append(PartTable(rows_with_blanks(made(Table(rows)), rng.choice(few))))
    return found


def fill_with(part, numbers):
    """The table with the numbers in the blanks."""
    waiting = iter(numbers)
    return Table([[next(waiting) if member is None else member for member in row] for row in part.rows])


def blanks_of(part):
    return [(at, column) for at, row in enumerate(part.rows) for column, member in enumerate(row) if member is None]


def plain_core(part):
    """The known core, from a filling with noughts."""
    core = unmade(fill_with(part, [NOUGHT] * len(blanks_of(part))))
    return [[None if member is None else number for number, member in zip(numbers, row)]
            for numbers, row in zip(core.rows, part.rows)]


def full(number):
    return number is not None and number != NOUGHT


def plain_fillable(part):
    core = plain_core(part)
    for at, row in enumerate(core):
        for column, number in enumerate(row):
            if number is None:
                continue
            if number[0] < 0:
                return False
            if number == NOUGHT and any(map(full, row[:column])) and any(full(above[column]) for above in core[:at]):
                return False
    return True


def plain_paper(part):
    """The paper of a part-empty table that is not fillable, in the words of the document."""
    core = plain_core(part)
    pattern = [[int(full(number)) for number in row] for row in core]
    high, wide = len(core), len(core[0])
    for row, column in tree_order_of(high, wide):
        number = core[row][column]
        if number is None:
            continue
        if number[0] < 0:
            return plain_road_lots(pattern, row, column)
        if number[0] > 0:
            for low in range(high - 1, row, -1):
                left = [place for place in range(column) if pattern[low][place]]
                if not pattern[low][column] and left:
                    rows, columns = plain_road_lots(pattern, low, column)
                    return (row,) + rows, (left[-1],) + columns
    return None


def numbers_from(rng, many, low=-3, noughts=0.4):
    return [random_number(rng, low, 3, noughts) for _ in range(many)]
