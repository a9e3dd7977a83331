import random
import unittest

from helpers import WRONG_INTEGERS, Case, frac, fractions_of, num, random_table, table_of, tables_of_any_sign
from minusless.clearing import clear_column, clear_part, cleared
from minusless.errors import BadBox, BadNumber, NoStep
from minusless.tables import Table
from minusless.unmaking import last_round, next_full, unmade

TABLES = tables_of_any_sign(150, seed=31)
HALF = (1, 2)


class Clearing(Case):
    def test_plain_clearing_is_unmaking(self):
        for table in TABLES + [random_table(random.Random(1), 12, 12)]:
            self.assertEqual(cleared(table), unmade(table))

    def test_clear_part(self):
        for table in TABLES:
            last = table.rows[-1]
            for column in range(table.wide):
                behind = next_full(last, column)
                if last[column] == (0, 1) or behind is None:
                    self.refuses(NoStep(), clear_part, table, column, HALF)
                    self.refuses(NoStep(), clear_column, table, column)
                    continue
                for number in (HALF, (-3, 1), (0, 1)):
                    wanted = fractions_of(table)
                    for row in wanted:
                        row[column] -= frac(number) * row[behind]
                    self.assertEqual(clear_part(table, column, number), table_of(wanted))
                whole = num(frac(last[column]) / frac(last[behind]))
                self.assertEqual(clear_column(table, column), clear_part(table, column, whole))
                self.assertEqual(clear_column(table, column).rows[-1][column], (0, 1))

    def test_all_columns_give_the_last_round(self):
        for table in TABLES:
            if table.high == 1:
                continue
            full = [column for column, number in enumerate(table.rows[-1]) if number != (0, 1)]
            found = table
            for column in full[:-1]:
                found = clear_column(found, column)
            above, _ = last_round(table)
            self.assertEqual(found.rows[:-1], above.rows)
            self.assertLessEqual(sum(number != (0, 1) for number in found.rows[-1]), 1)

    def test_errors_in_order(self):
        table = Table.read("1 2 3\n4 0 5")
        for wrong in WRONG_INTEGERS + (3, 4):
            self.refuses(BadBox(-1, wrong), clear_part, table, wrong, None)
            self.refuses(BadBox(-1, wrong), clear_column, table, wrong)
        for wrong in (None, 1, (2, 4), [1, 2], (True, 1)):
            self.refuses(BadNumber(-1), clear_part, table, 1, wrong)
        self.refuses(NoStep(), clear_part, table, 1, HALF)
        self.refuses(NoStep(), clear_part, table, 2, HALF)
        self.refuses(NoStep(), clear_column, table, 1)
        self.refuses(NoStep(), clear_column, table, 2)
        self.assertEqual(clear_part(table=table, column=0, number=(2, 1)).words(), "-5 2 3\n-6 0 5")
        self.assertEqual(clear_column(table=table, column=0).words(), "-7/5 2 3\n0 0 5")


if __name__ == "__main__":
    unittest.main()
