import unittest

from helpers import WRONG_INTEGERS, Case, frac, good_tables, num, plain_good, tables_of_any_sign
from minusless.clearing import clear_part
from minusless.errors import BadBox, NoStep, NotGood
from minusless.mainrule import core_fault, is_good
from minusless.onerow import clearing_room, row_verdict
from minusless.tables import Table
from minusless.unmaking import last_round, next_full, unmade
from test_mainrule import TABLES


def conditions(table):
    """The names of the conditions that fail."""
    last = [frac(number) for number in table.rows[-1]]
    failing = []
    if min(last) < 0:
        failing.append("below")
    for column, number in enumerate(last):
        if number == 0 and any(other > 0 for other in last[:column]):
            if any(row[column] != (0, 1) for row in table.rows) and "column" not in failing:
                failing.append("column")
    if table.high > 1 and not plain_good(last_round(table)[0]):
        failing.append("above")
    return failing


class Verdicts(Case):
    def test_all_three_against_minors(self):
        for table in TABLES:
            failing = conditions(table)
            self.assertEqual(not failing, plain_good(table))
            self.assertEqual(row_verdict(table), failing[0] if failing else "good")

    def test_each_fails_alone(self):
        for words, name in (("1\n-1", "below"), ("0 1\n1 0", "column"), ("0 1\n1 1", "above"), ("1 1\n1 1", "good"),
                            ("-1", "below"), ("0", "good"), ("1 0", "good")):
            table = Table.read(words)
            self.assertEqual(row_verdict(table=table), name)
            self.assertEqual(conditions(table), [] if name == "good" else [name])

    def test_order(self):
        self.assertEqual(row_verdict(Table.read("0 1 0\n1 0 -1")), "below")
        self.assertEqual(row_verdict(Table.read("0 -1 1\n1 0 1")), "column")


class Room(Case):
    def test_at_it_below_and_above(self):
        asked = 0
        for table in good_tables(120, 4, seed=61):
            last = table.rows[-1]
            for column in range(table.wide):
                behind = next_full(last, column)
                if last[column] == (0, 1) or behind is None or any(number != (0, 1) for number in last[:column]):
                    self.refuses(NoStep(), clearing_room, table, column)
                    continue
                room = clearing_room(table, column)
                self.assertEqual(room, num(frac(last[column]) / frac(last[behind])))
                for less in (num(0), num(-5), num(frac(room) / 2), room):
                    self.assertTrue(plain_good(clear_part(table, column, less)))
                for more in (num(frac(room) * 1001 / 1000), num(frac(room) + 3)):
                    self.assertFalse(plain_good(clear_part(table, column, more)))
                asked += 1
        self.assertGreater(asked, 40)

    def test_where_there_is_none(self):
        table = Table.read("1 1 1 1\n0 2 3 4")
        self.assertEqual(clearing_room(table=table, column=1), (2, 3))
        for column in (0, 2, 3):
            self.refuses(NoStep(), clearing_room, table, column)
        self.refuses(NoStep(), clearing_room, Table.read("0 1"), 1)
        self.refuses(NoStep(), clearing_room, Table.read("0 0"), 0)

    def test_errors_in_order(self):
        for table in tables_of_any_sign(60, seed=62):
            for wrong in WRONG_INTEGERS + (table.wide,):
                self.refuses(BadBox(-1, wrong), clearing_room, table, wrong)
            if not is_good(table):
                self.refuses(NotGood(*core_fault(unmade(table))), clearing_room, table, table.wide - 1)


if __name__ == "__main__":
    unittest.main()
