import random
import unittest
from fractions import Fraction

from helpers import WRONG_INTEGERS, Case, frac, fractions_of, num, random_number, random_table, table_of, tables_of_any_sign
from minusless.errors import BadBox, BadNumber, OtherSize, TooMany
from minusless.making import made, made_row, put_under
from minusless.tables import Table
from minusless.unmaking import core_row, last_round, level, next_full, unmade, unmade_row

ONE = (1, 1)


def plain_round(row, by):
    """An unmaking round, in the words of the document."""
    found = list(row)
    for column, number in enumerate(by):
        behind = [place for place in range(column + 1, len(by)) if by[place]]
        if number and behind:
            found[column] = row[column] - number / by[behind[0]] * row[behind[0]]
    return found


def plain_core(table):
    rows = fractions_of(table)
    for at in range(len(rows) - 1, 0, -1):
        rows[:at] = [plain_round(row, rows[at]) for row in rows[:at]]
    return table_of(rows)


def plain_made(core):
    rows = fractions_of(core)
    for at in range(1, len(rows)):
        by = rows[at]
        changed = []
        for row in rows[:at]:
            changed.append([sum((by[j] / by[s] * row[s] for s in range(j, len(by)) if by[s]), Fraction(0)) if by[j]
                            else row[j] for j in range(len(by))])
        rows[:at] = changed
    return table_of(rows)


def row_pairs(count, seed):
    rng = random.Random(seed)
    for _ in range(count):
        wide = rng.randint(0, 6)
        yield tuple(tuple(random_number(rng) for _ in range(wide)) for _ in range(2))


TABLES = tables_of_any_sign(150, seed=21)


class Rounds(Case):
    def test_each_undoes_the_other(self):
        for row, by in row_pairs(300, 1):
            self.assertEqual(made_row(unmade_row(row, by), by), row)
            self.assertEqual(unmade_row(made_row(list(row), list(by)), by), row)

    def test_against_the_words(self):
        for row, by in row_pairs(300, 2):
            wanted = plain_round([frac(number) for number in row], [frac(number) for number in by])
            self.assertEqual(unmade_row(row, list(by)), tuple(map(num, wanted)))

    def test_edges(self):
        for action in (unmade_row, made_row):
            self.assertEqual(action((), []), ())
            self.assertEqual(action([(3, 1)], [(2, 1)]), ((3, 1),))
            self.assertEqual(action([(3, 1), (4, 1)], [(0, 1), (2, 1)]), ((3, 1), (4, 1)))
            self.assertIs(type(action(row=[ONE], by=[ONE])), tuple)

    def test_errors_in_order(self):
        for action in (unmade_row, made_row):
            self.refuses(BadNumber(-1), action, None, None)
            self.refuses(BadNumber(1), action, [ONE, (2, 4)], "x")
            self.refuses(BadNumber(-1), action, [ONE], "x")
            self.refuses(BadNumber(0), action, [ONE], [True, ONE])
            self.refuses(OtherSize(1, 2), action, [ONE], [ONE, ONE])
            self.refuses(OtherSize(2, 0), action, [ONE, ONE], [])

    def test_next_full(self):
        row = [ONE, (0, 1), (-1, 2), (0, 1)]
        self.assertEqual([next_full(row, column) for column in range(4)], [2, 2, None, None])
        self.assertEqual(next_full(row=tuple(row), column=0), 2)
        for wrong in WRONG_INTEGERS + (4, 5):
            self.refuses(BadBox(-1, wrong), next_full, row, wrong)
        self.refuses(BadBox(-1, 0), next_full, [], 0)
        self.refuses(BadNumber(1), next_full, [ONE, 1], -1)
        self.refuses(BadNumber(-1), next_full, None, -1)


class Cores(Case):
    def test_unmade_and_made(self):
        for table in TABLES:
            self.assertEqual(unmade(table), plain_core(table))
            self.assertEqual(made(table), plain_made(table))
            self.assertEqual(made(unmade(table)), table)
            self.assertEqual(unmade(made(table)), table)

    def test_example(self):
        self.assertEqual(unmade(Table.read("1 2\n1 3")).words(), "1/3 2\n1 3")

    def test_twelve(self):
        rng = random.Random(3)
        for noughts in (0.1, 0.6):
            table = random_table(rng, 12, 12, noughts=noughts)
            self.assertEqual(made(unmade(table)), table)
            self.assertEqual(unmade(made(table)), table)

    def test_one_row_and_one_column(self):
        for words in ("1 0 -2 3", "0", "-1/2"):
            self.assertEqual(unmade(Table.read(words)), Table.read(words))
            self.assertEqual(made(Table.read(words)), Table.read(words))
        self.assertEqual(unmade(Table.read("1\n0\n-2")), Table.read("1\n0\n-2"))

    def test_nothing_changes(self):
        table = table_of([[1, 2], [3, 4]])
        rows = table.rows
        unmade(table)
        made(table)
        last_round(table)
        put_under(table, [ONE, ONE])
        self.assertEqual(table.rows, rows)


class Levels(Case):
    def test_levels(self):
        for table in TABLES:
            core = unmade(table)
            last = table.high - 1
            self.assertEqual(level(table, last), table)
            for at in range(table.high):
                found = level(table, at)
                self.assertEqual(found.high, at + 1)
                self.assertEqual(found.rows[-1], core.rows[at])
                self.assertEqual(core_row(table, at), core.rows[at])
                if at < last:
                    above, row = last_round(level(table, at + 1))
                    self.assertEqual(found, above)
                    self.assertEqual(row, core.rows[at + 1])
                    self.assertEqual(unmade(found).rows, unmade(above).rows)

    def test_last_round(self):
        self.assertEqual(last_round(Table.read("1 2\n1 3")), (Table.read("1/3 2"), (ONE, (3, 1))))
        self.assertIs(type(last_round(Table.unit(2))), tuple)
        self.refuses(TooMany(1), last_round, Table.read("1 2 3"))

    def test_the_only_row(self):
        table = Table.read("1 2 3")
        self.assertEqual(level(table, 0), table)
        self.assertEqual(core_row(table=table, at=0), table.rows[0])

    def test_wrong_places(self):
        for action in (level, core_row):
            for wrong in WRONG_INTEGERS + (2, 3):
                self.refuses(BadBox(wrong, -1), action, Table.unit(2), wrong)

    def test_put_under(self):
        for table in TABLES:
            for row in ([ONE] * table.wide, [(0, 1)] * table.wide, [num(place - 1) for place in range(table.wide)]):
                found = put_under(table, row)
                self.assertEqual(unmade(found).rows, unmade(table).rows + (tuple(row),))

    def test_put_under_refuses(self):
        table = Table.nought(12, 2)
        self.refuses(BadNumber(-1), put_under, table, None)
        self.refuses(BadNumber(1), put_under, table, [ONE, None, ONE])
        self.refuses(OtherSize(3, 2), put_under, table, [ONE] * 3)
        self.refuses(OtherSize(0, 2), put_under, table, [])
        self.refuses(TooMany(12), put_under, table, [ONE] * 2)
        self.assertEqual(put_under(table=Table.nought(11, 2), row=[ONE] * 2).high, 12)


class Corners(Case):
    def test_corners(self):
        for table in TABLES:
            core = unmade(table)
            for row in range(table.high):
                for column in range(table.wide):
                    self.assertEqual(unmade(table.corner(row, column)), core.corner(row, column))

    def test_turned(self):
        for table in TABLES:
            self.assertEqual(unmade(table.turned()), unmade(table).turned())

    def test_rows_and_columns_of_nought(self):
        for table in TABLES:
            core = unmade(table)
            for at in range(table.high):
                self.assertEqual(table.has_nought_row(at), core.has_nought_row(at))
                if table.has_nought_row(at) and table.high > 1:
                    self.assertEqual(unmade(table.without_row(at)), core.without_row(at))
            for at in range(table.wide):
                self.assertEqual(table.turned().has_nought_row(at), core.turned().has_nought_row(at))
                if core.turned().has_nought_row(at) and table.wide > 1:
                    self.assertEqual(unmade(table.without_column(at)), core.without_column(at))
            for at in range(table.high + 1):
                row = [(0, 1)] * table.wide
                self.assertEqual(unmade(table.with_row(at, row)), core.with_row(at, row))
            for at in range(table.wide + 1):
                column = [(0, 1)] * table.high
                self.assertEqual(unmade(table.with_column(at, column)), core.with_column(at, column))

    def test_multiples(self):
        for table in TABLES:
            core = unmade(table)
            for number in ((-2, 3), (5, 1)):
                for at in range(table.high):
                    self.assertEqual(unmade(table.times_row(at, number)), core.times_row(at, number))
                for at in range(table.wide):
                    changed = table.turned().times_row(at, number).turned()
                    self.assertEqual(unmade(changed), core.turned().times_row(at, number).turned())


if __name__ == "__main__":
    unittest.main()
