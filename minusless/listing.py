"""Desks and tables told in lines."""

from minusless.boxways import count_full
from minusless.counting import count_stairs
from minusless.desks import verdict_on
from minusless.minors import rank_of
from minusless.numbers import written
from minusless.raising import MOST_LINES, entry_stretch
from minusless.stairs import SIGNS
from minusless.unmaking import unmade


def number_lines(table):
    """Return a line for each row of the table."""
    return [" ".join([written(number).rjust(8) for number in row]) for row in table.rows]


def pattern_lines(pattern):
    """Return a line for each row of the pattern."""
    return ["".join([SIGNS[box] for box in row]) for row in pattern]


def cell_line(desk):
    """Return the line that tells the cell."""
    number = desk.cell()
    if number is None:
        return "cell none"
    return f"cell {number} of {count_stairs(desk.table.high, desk.table.wide)}"


def end_words(number):
    """Return the string of the end of a stretch."""
    return "no end" if number is None else written(number)


def mark_lines(desk):
    """Return the line that tells the marked box, none if there is no such box."""
    if desk.marked is None:
        return []
    row, column = desk.marked
    line = f"marked {row} {column}"
    table = desk.table
    if desk.verdict != "good" or table.high > MOST_LINES or table.wide > MOST_LINES:
        return [line]
    low, high = entry_stretch(table, row, column)
    return [f"{line} from {end_words(low)} to {end_words(high)}"]


def desk_lines(desk):
    """Return the lines that tell all that is on the desk."""
    table = desk.table
    shown = desk.paper()
    lines = [f"table {table.high} x {table.wide}"] + number_lines(table)
    lines = lines + ["core"] + number_lines(desk.core) + ["pattern"] + pattern_lines(desk.pattern)
    lines = lines + [f"verdict {desk.verdict}", cell_line(desk), f"rank {desk.ranks()}"]
    lines = lines + [f"paper {shown.about()}, size {shown.size()}", f"deeds {len(desk.deeds)}"]
    return tuple(lines + mark_lines(desk))


def summary(table):
    """Return the string that tells size, verdict, rank and number of full boxes."""
    core = unmade(table)
    size = f"{table.high} x {table.wide}"
    return f"{size}, {verdict_on(core)}, rank {rank_of(table)}, full boxes {count_full(core)}"
