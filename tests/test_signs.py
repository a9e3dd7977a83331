import random
import unittest

from helpers import WRONG_INTEGERS, Case, plain_good, random_number, random_table, tables_of_any_sign
from minusless.errors import BadNumber, BadWant, OtherSize
from minusless.signs import (SignRule, begins, changes, ends, filled_signs, most_changes, taken, taken_left)
from minusless.tables import Table
from signhelpers import (WRONG_ROWS, choices_of, count, plain_begins, plain_changes, plain_ends, plain_most, plain_rule,
                         plain_strict, plain_taken, sign_rows)
from stairhelpers import STAIRS, good_on, good_tables_on

NOUGHT, ONE = (0, 1), (1, 1)
RNG = random.Random(61)
ROWS = [row for size in range(6) for row in sign_rows(size)]
ROWS += [tuple(random_number(RNG) for _ in range(RNG.randint(1, 8))) for _ in range(200)]
TABLES = tables_of_any_sign(60, most=3, seed=62) + good_tables_on(STAIRS[::12], seed=63)


class Changes(Case):
    def test_rows(self):
        for row in ROWS:
            self.assertEqual(changes(list(row)), plain_changes(row))
            self.assertEqual(changes(row=row), plain_changes(row))
            self.assertEqual(begins(list(row)), plain_begins(row))
            self.assertEqual(begins(row=row), plain_begins(row))
            self.assertEqual(ends(list(row)), plain_ends(row))
            self.assertEqual(ends(row=row), plain_ends(row))
            self.assertEqual(most_changes(list(row)), plain_most(row))
            self.assertEqual(most_changes(row=row), plain_most(row))

    def test_edges(self):
        for row in ((), (NOUGHT,), [NOUGHT] * 20):
            self.assertEqual((changes(row), begins(row), ends(row)), (-1, 0, 0))
            self.assertEqual(most_changes(row), len(row) - 1)
        row = [(-1, 3), NOUGHT, (5, 2)]
        self.assertEqual((changes(row), begins(row), ends(row), most_changes(row)), (1, -1, 1, 1))
        for row in ROWS:
            if plain_changes(row) >= 0:
                other = [(number[0] * (-1) ** place, number[1]) for place, number in enumerate(row)]
                self.assertEqual(most_changes(row) + changes(other), len(row) - 1)

    def test_filled_signs(self):
        none = 0
        for row in ROWS:
            choices = choices_of(row)
            most = max(map(count, choices))
            for begin in (1, -1):
                wanted = [choice for choice in choices if choice and choice[0] == begin and count(choice) == most]
                found = filled_signs(list(row), begin)
                self.assertEqual(found, wanted[0] if wanted else None)
                self.assertEqual(filled_signs(row=row, begin=begin), found)
                none += found is None
        self.assertGreater(none, 100)
        self.assertIsNone(filled_signs((), 1))
        self.assertEqual(filled_signs([NOUGHT] * 3, 1), (1, -1, 1))

    def test_errors(self):
        for call in (changes, begins, ends, most_changes):
            for wrong, place in WRONG_ROWS:
                self.refuses(BadNumber(place), call, wrong)
        for wrong, place in WRONG_ROWS:
            self.refuses(BadNumber(place), filled_signs, wrong, None)
        for wrong in (None, True, False, 0, 2, -2, 1.0, "1", (1,)):
            self.refuses(BadWant("begin"), filled_signs, [ONE], wrong)
            self.refuses(BadWant("begin"), filled_signs, [], wrong)


class Taken(Case):
    def test_tables(self):
        rng = random.Random(64)
        for table in TABLES:
            row = [random_number(rng) for _ in range(table.wide)]
            found = taken(table, list(row))
            self.assertEqual(found, plain_taken(table, row))
            self.assertIs(type(found), tuple)
            self.assertEqual(taken(table=table, row=row), found)
            left = [random_number(rng) for _ in range(table.high)]
            self.assertEqual(taken_left(table, list(left)), plain_taken(table.turned(), left))
            self.assertEqual(taken_left(table=table, row=tuple(left)), taken(table.turned(), left))
            other = random_table(rng, table.wide, rng.randint(1, 3))
            row = [random_number(rng) for _ in range(other.wide)]
            self.assertEqual(taken(table * other, row), taken(table, taken(other, row)))

    def test_errors(self):
        table = Table.read("1 2 3\n4 5 6")
        rule = SignRule(table)
        for call in (lambda row: taken(table, row), lambda row: taken_left(table, row), rule, rule.strict):
            for wrong, place in WRONG_ROWS:
                self.refuses(BadNumber(place), call, wrong)
        for many in (0, 2, 4):
            for call in (lambda row: taken(table, row), rule, rule.strict):
                self.refuses(OtherSize(3, many), call, [NOUGHT] * many)
        for many in (0, 1, 3):
            self.refuses(OtherSize(2, many), taken_left, table, [ONE] * many)


class Rules(Case):
    def test_rule_and_strict_rule(self):
        found = {"rule": set(), "strict": set()}
        for table in TABLES:
            rule = SignRule(table)
            self.assertIs(rule.table, table)
            rows = sign_rows(table.wide)
            wanted = tuple(plain_rule(table, row) for row in rows)
            self.assertEqual(tuple(rule(row) for row in rows), wanted)
            self.assertEqual(rule.verdicts(list(rows)), wanted)
            self.assertEqual(rule.verdicts(rows=tuple(rows)), wanted)
            found["rule"].update(wanted)
            for row in rows:
                if plain_changes(row) == -1:
                    self.refuses(BadNumber(-1), rule.strict, row)
                else:
                    self.assertIs(rule.strict(row=list(row)), plain_strict(table, row))
                    found["strict"].add(plain_strict(table, row))
        self.assertEqual(found, {"rule": {True, False}, "strict": {True, False}})
        self.assertIs(SignRule(table=Table.unit(2))(row=[ONE, ONE]), True)
        self.assertIs(SignRule(Table.read("-1"))([ONE]), False)
        self.assertIs(SignRule(Table.read("-1"))([NOUGHT]), True)

    def test_turned_rule(self):
        for table in TABLES:
            turned = SignRule(table).turned_rule()
            self.assertIsInstance(turned, SignRule)
            self.assertEqual(turned.table, table.turned())
            for row in sign_rows(table.high):
                self.assertIs(turned(row), plain_rule(table.turned(), row))

    def test_errors_of_verdicts(self):
        rule = SignRule(Table.unit(2))
        for wrong in (None, 1, "", {}, {0: [ONE, ONE]}):
            self.refuses(BadNumber(-1), rule.verdicts, wrong)
        self.refuses(BadNumber(1), rule.verdicts, [[ONE, ONE], [ONE, 1], [1]])
        self.refuses(OtherSize(2, 1), rule.verdicts, [[ONE, ONE], [ONE], None])
        self.refuses(BadNumber(-1), rule.verdicts, [None, [ONE]])
        self.assertEqual(rule.verdicts([]), ())
        self.assertEqual(rule.verdicts(()), ())

    def test_good_tables(self):
        rng = random.Random(65)
        for table in good_tables_on(STAIRS[::6], seed=66):
            rule = SignRule(table)
            self.assertTrue(all(rule.verdicts(sign_rows(table.wide))))
            for _ in range(10):
                row = [random_number(rng) for _ in range(table.wide)]
                found = taken(table, row)
                self.assertTrue(rule(row))
                if changes(found) == changes(row) != -1:
                    self.assertEqual((begins(found), ends(found)), (begins(row), ends(row)))
                left = [random_number(rng) for _ in range(table.high)]
                found = taken_left(table, left)
                self.assertLessEqual(changes(found), changes(left))
                if changes(found) == changes(left) != -1:
                    self.assertEqual((begins(found), ends(found)), (begins(left), ends(left)))

    def test_changes_do_not_rise_through_products(self):
        rng = random.Random(67)
        squares = [stair for stair in STAIRS if stair.high == stair.wide == 3]
        for _ in range(60):
            one, other = good_on(rng, rng.choice(squares)), good_on(rng, rng.choice(squares))
            row = [random_number(rng) for _ in range(3)]
            self.assertTrue(changes(row) >= changes(taken(other, row)) >= changes(taken(one * other, row)))

    def test_a_table_is_good_if_its_rule_holds(self):
        for table in tables_of_any_sign(80, most=2, seed=68):
            rows = [[(a, 3), (b, 3)][:table.wide] for a in range(-4, 5) for b in range(-4, 5) if a % 3 and b % 3]
            if plain_good(table):
                self.assertTrue(all(SignRule(table).verdicts(rows)))


if __name__ == "__main__":
    unittest.main()
