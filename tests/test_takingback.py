import random
import unittest
from fractions import Fraction

from helpers import Case, frac, num
from minusless.coresteps import core_row_at
from minusless.errors import BadBox, BadWant, NoStep, NotGood
from minusless.mainrule import core_fault, is_good, stair_of
from minusless.minors import rank_of
from minusless.stairs import Stair
from minusless.tables import Table
from minusless.takingback import may_take, most_back, take_most, takeable
from minusless.unmaking import unmade
from stairhelpers import STAIRS, good_on, good_tables_on, random_stairs
from stephelpers import KINDS, WRONG_KINDS, WRONG_PLACES, full_many, place_error, places, plain_step

TABLES = good_tables_on(STAIRS[::2] + random_stairs(40, 5, seed=10), seed=8)
SMALL = Fraction(1, 10 ** 9)


class Most(Case):
    def test_against_trying_amounts(self):
        taken = {kind: 0 for kind in KINDS}
        refused = dict(taken)
        for table in TABLES:
            for kind in KINDS:
                for at in places(table, kind):
                    if may_take(table, kind, at):
                        self.check_most(table, kind, at)
                        taken[kind] += 1
                    else:
                        self.check_none(table, kind, at)
                        refused[kind] += 1
        self.assertGreater(min(list(taken.values()) + list(refused.values())), 100)

    def check_most(self, table, kind, at):
        self.assertIs(may_take(table, kind, at), True)
        most = most_back(table, kind, at)
        value = frac(most)
        self.assertGreater(value, 0)
        stair = stair_of(table)
        for share in (Fraction(1, 7), 1 - SMALL):
            less = plain_step(table, kind, at, num(value * share), -1)
            self.assertNotEqual(less, table)
            self.assertEqual(stair_of(less), stair)
        found = take_most(table, kind, at)
        self.assertEqual(found, plain_step(table, kind, at, most, -1))
        self.assertEqual(stair_of(found).many, stair.many - 1)
        self.assertEqual(rank_of(found), rank_of(table))
        for share in (1 + SMALL, 2):
            self.assertFalse(is_good(plain_step(table, kind, at, num(value * share), -1)))

    def check_none(self, table, kind, at):
        self.assertIs(may_take(table, kind, at), False)
        for call in (most_back, take_most):
            self.refuses(NoStep(), call, table, kind, at)
        for value in (SMALL, Fraction(1)):
            behind = plain_step(table, kind, at, num(value), -1)
            self.assertTrue(behind == table or not is_good(behind))

    def test_by_the_core(self):
        for table in TABLES[::3]:
            core, stair = unmade(table), stair_of(table)
            for at in places(table, "down"):
                first = stair.first(at)
                wanted = first < table.wide and first >= stair.first(at + 1)
                self.assertIs(may_take(table=table, kind="down", at=at), wanted)
                if wanted:
                    share = frac(core.entry(at + 1, first)) / frac(core_row_at(core, at)[first])
                    self.assertEqual(most_back(table=table, kind="down", at=at), num(share))

    def test_behind_the_step_it_can_be_taken_back(self):
        rng = random.Random(1)
        for table in TABLES[::2]:
            for kind in KINDS:
                for at in places(table, kind):
                    amount = num(Fraction(rng.randint(1, 4), rng.randint(1, 3)))
                    behind = plain_step(table, kind, at, amount)
                    if behind == table:
                        continue
                    self.assertIs(may_take(behind, kind, at), True)
                    self.assertGreaterEqual(frac(most_back(behind, kind, at)), frac(amount))
                    if full_many(unmade(behind)) > full_many(unmade(table)):
                        self.assertEqual(most_back(behind, kind, at), amount)
                        self.assertEqual(take_most(table=behind, kind=kind, at=at), table)

    def test_twelve(self):
        table = good_on(random.Random(2), Stair.all_full(12, 12))
        self.assertEqual(len(takeable(table)), 44)
        for kind in KINDS:
            self.assertEqual(stair_of(take_most(table, kind, 3)).many, 143)


class Takeable(Case):
    def test_against_may_take(self):
        for table in TABLES:
            wanted = tuple((kind, at) for kind in KINDS for at in places(table, kind) if may_take(table, kind, at))
            self.assertEqual(takeable(table), wanted)
        self.assertEqual(takeable(table=Table.read("1 1\n1 2")), (("down", 0), ("up", 0), ("right", 0), ("left", 0)))

    def test_one_row_or_column(self):
        self.assertEqual(takeable(Table.read("3")), ())
        self.assertEqual(takeable(Table.read("1 2 0")), (("right", 0), ("left", 0)))
        self.assertEqual(takeable(Table.read("0\n2\n1")), (("down", 1), ("up", 1)))
        self.assertEqual(most_back(Table.read("0\n2\n1"), "down", 1), (1, 2))
        self.assertEqual(take_most(Table.read("0\n2\n1"), "up", 1), Table.read("0\n0\n1"))
        self.assertEqual(take_most(Table.read("1 2 0"), "right", 0), Table.read("1 0 0"))
        for table, kind in ((Table.read("1 2 0"), "down"), (Table.read("1\n2"), "left")):
            for call in (may_take, most_back, take_most):
                self.refuses(BadBox(*place_error(kind, 0)), call, table, kind, 0)


class Refused(Case):
    def test_errors_in_order(self):
        bad = Table.read("0 1 0\n1 0 0")
        for call in (may_take, most_back, take_most):
            for wrong in WRONG_KINDS:
                self.refuses(BadWant("kind"), call, bad, wrong, None)
            for kind in KINDS:
                last = 1 if kind in ("down", "up") else 2
                for wrong in WRONG_PLACES + (last, 99):
                    self.refuses(BadBox(*place_error(kind, wrong)), call, bad, kind, wrong)
                self.refuses(NotGood(1, 1), call, bad, kind, 0)
                # The box is one of the core of the table as it is.
                other = Table.read("1 1 2\n1 1 1")
                self.refuses(NotGood(*core_fault(unmade(other))), call, other, kind, 0)
        self.refuses(NotGood(1, 1), takeable, bad)

    def test_no_step_comes_last(self):
        for call in (most_back, take_most):
            self.refuses(NoStep(), call, Table.nought(2, 2), "down", 0)
            self.refuses(NotGood(1, 0), call, Table.read("0 0\n-1 0"), "up", 0)
            self.refuses(BadBox(1, -1), call, Table.nought(2, 2), "down", 1)


if __name__ == "__main__":
    unittest.main()
