"""Ways and companies of a core, worked out box by box from the words of the document."""

from fractions import Fraction
from itertools import combinations, product

from helpers import frac, num


def is_full(core, box):
    return core.rows[box[0]][box[1]] != (0, 1)


def runs(core, row):
    """All ways from the row, each as (column below which it leaves, turns, boxes), one move at a time."""
    found = []
    waiting = [((row, core.wide - 1), "left", (), ())]
    while waiting:
        (at, column), heading, turns, boxes = waiting.pop()
        if at == core.high:
            found.append((column, turns, boxes))
            continue
        if column < 0:
            continue
        box = (at, column)
        left, down = (at, column - 1), (at + 1, column)
        if heading == "left":
            waiting.append((left, "left", turns, boxes + (box,)))
            if is_full(core, box):
                waiting.append((down, "down", turns + (box,), boxes + (box,)))
        else:
            waiting.append((down, "down", turns, boxes + (box,)))
            if is_full(core, box):
                waiting.append((left, "left", turns + (box,), boxes + (box,)))
    return found


def plain_ways(core, row, column):
    """The ways from the row to the column as (turns, boxes), in rising order."""
    return sorted((turns, boxes) for stop, turns, boxes in runs(core, row) if stop == column)


def plain_weight(core, turns):
    weight = Fraction(1)
    for place, (row, column) in enumerate(turns):
        number = frac(core.rows[row][column])
        weight = weight / number if place % 2 else weight * number
    return num(weight)


def plain_companies(core, rows, columns):
    """The companies, each a tuple of ways, in rising order."""
    found = []
    for choice in product(*[plain_ways(core, row, column) for row, column in zip(rows, columns)]):
        if not any(set(one[1]) & set(other[1]) for one, other in combinations(choice, 2)):
            found.append(tuple(turns for turns, _ in choice))
    return sorted(found)
