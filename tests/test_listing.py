import random
import unittest

from deskhelpers import ONE
from helpers import Case, good_tables, tables_of_any_sign
from minusless.counting import count_stairs
from minusless.desks import Desk
from minusless.finding import paper_for
from minusless.listing import desk_lines, summary
from minusless.minors import rank_of
from minusless.numbering import number_of_stair
from minusless.numbers import written
from minusless.raising import entry_stretch
from minusless.stairs import Stair, pattern_of
from minusless.tables import Table
from minusless.unmaking import unmade
from stairhelpers import STAIRS, good_on, good_tables_on, random_stair
from stephelpers import full_many

RNG = random.Random(171)
TABLES = (good_tables_on(STAIRS[::15], seed=172) + good_tables(15, most=5, seed=173) + tables_of_any_sign(20, 4, seed=174)
          + [good_on(RNG, random_stair(RNG, high, wide, 0.7)) for high, wide in ((5, 5), (6, 5), (5, 6), (12, 12))])


def number_line(row):
    return " ".join(" " * max(0, 8 - len(written(number))) + written(number) for number in row)


def ending(number):
    return "no end" if number is None else written(number)


def plain_lines(desk, good):
    """The lines in the words of the document."""
    table, core = desk.table, unmade(desk.table)
    high, wide = table.high, table.wide
    lines = [f"table {high} x {wide}"] + [number_line(row) for row in table.rows]
    lines += ["core"] + [number_line(row) for row in core.rows]
    lines += ["pattern"] + ["".join("#" if number != (0, 1) else "." for number in row) for row in core.rows]
    lines.append("verdict good" if good else "verdict not good")
    number = number_of_stair(Stair(pattern_of(core))) if good else None
    lines.append(f"cell {number} of {count_stairs(high, wide)}" if good else "cell none")
    lines.append(f"rank {rank_of(table)}")
    paper = paper_for(table)
    lines += [f"paper {paper.about()}, size {paper.size()}", f"deeds {len(desk.deeds)}"]
    if desk.marked is not None:
        row, column = desk.marked
        lines.append(f"marked {row} {column}")
        if good and high <= 5 and wide <= 5:
            low, most = entry_stretch(table, row, column)
            lines[-1] += f" from {ending(low)} to {ending(most)}"
    return tuple(lines)


class Lines(Case):
    def test_desks(self):
        for table in TABLES:
            good = Desk(table).verdict == "good"
            for mark in (None, (0, 0), (table.high - 1, table.wide - 1), (table.high - 1, 0)):
                desk = Desk(table, marked=mark)
                found = desk_lines(desk)
                self.assertIs(type(found), tuple)
                self.assertEqual(found, plain_lines(desk, good))
                self.assertEqual(desk_lines(desk=desk), found)
                self.assertEqual(found[-1].startswith("marked"), mark is not None)

    def test_word_for_word(self):
        desk = Desk(Table.read("1 1\n1 2"), marked=(1, 0))
        self.assertEqual(desk_lines(desk), (
            "table 2 x 2", "       1        1", "       1        2", "core", "     1/2        1", "       1        2",
            "pattern", "##", "##", "verdict good", "cell 13 of 14", "rank 2", "paper about 2 x 2: good, size 4",
            "deeds 0", "marked 1 0 from -1 to 1"))
        desk.raise_entry(0, 1, (123456789, 10))
        self.assertEqual(desk_lines(desk), (
            "table 2 x 2", "       1 123456799/10", "       1        2", "core", "-123456779/20 123456799/10",
            "       1        2", "pattern", "##", "##", "verdict not good", "cell none", "rank 2",
            "paper about 2 x 2: not good, size 2", "deeds 1", "marked 1 0"))
        desk = Desk(Table.read("0 -12345678 1/3"))
        self.assertEqual(desk_lines(desk)[1:6], ("       0 -12345678      1/3", "core", "       0 -12345678      1/3",
                                                 "pattern", ".##"))

    def test_the_bounds_of_the_last_line(self):
        for high, wide, told in ((5, 5, True), (5, 1, True), (1, 5, True), (6, 5, False), (5, 6, False), (12, 12, False)):
            table = good_on(RNG, random_stair(RNG, high, wide, 0.8))
            self.assertIs(" from " in desk_lines(Desk(table, marked=(0, 0)))[-1], told)
            self.assertEqual(desk_lines(Desk(table))[-1], "deeds 0")
            bad = table.raised(0, 0, (-10 ** 6, 1))
            self.assertEqual(desk_lines(Desk(bad, marked=(0, 0)))[-1], "marked 0 0")

    def test_deeds(self):
        desk = Desk(Table.unit(2))
        desk.step("down", 0, ONE)
        desk.turn()
        self.assertEqual(desk_lines(desk)[-1], "deeds 2")
        self.assertEqual(desk.deeds, ("step down 0 1", "turn"))


class Summary(Case):
    def test_tables(self):
        for table in TABLES:
            verdict = Desk(table).verdict
            wanted = f"{table.high} x {table.wide}, {verdict}, rank {rank_of(table)}, full boxes {full_many(unmade(table))}"
            self.assertEqual(summary(table), wanted)
            self.assertEqual(summary(table=table), wanted)
        self.assertEqual(summary(Table.read("1 1\n1 1")), "2 x 2, good, rank 1, full boxes 3")
        self.assertEqual(summary(Table.read("1 2\n2 1")), "2 x 2, not good, rank 2, full boxes 4")
        self.assertEqual(summary(Table.nought(12, 3)), "12 x 3, good, rank 0, full boxes 0")


if __name__ == "__main__":
    unittest.main()
