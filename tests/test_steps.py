import random
import unittest

from helpers import WRONG_INTEGERS, Case, num, random_table, tables_of_any_sign
from minusless.errors import BadBox, BadNumber, BadStep, BadWant
from minusless.steps import ColumnStep, RowStep, Step, step_on
from minusless.tables import Table
from stairhelpers import STAIRS, good_tables_on
from stephelpers import KINDS, WRONG_AMOUNTS, WRONG_KINDS, WRONG_PLACES, place_error, places, plain_step

ONE, TWO, HALF = (1, 1), (2, 1), (1, 2)
TABLES = tables_of_any_sign(80, seed=161) + good_tables_on(STAIRS[::9], seed=6)
# For each kind the step of it at a place.
STEPS = {"down": lambda at, amount: RowStep(at, amount), "up": lambda at, amount: RowStep(at, amount, True),
         "right": lambda at, amount: ColumnStep(at, amount), "left": lambda at, amount: ColumnStep(at, amount, True)}


class StepOn(Case):
    def test_forth_and_back(self):
        rng = random.Random(1)
        for table in TABLES:
            for kind in KINDS:
                for at in places(table, kind):
                    amount = num(rng.choice((1, 2, 3))) if rng.random() < 0.5 else (rng.randint(1, 5) * 2 + 1, 2)
                    found = step_on(table, kind, at, amount)
                    self.assertEqual(found, plain_step(table, kind, at, amount))
                    self.assertEqual(step_on(table, kind, at, amount, back=False), found)
                    back = step_on(table, kind, at, amount, back=True)
                    self.assertEqual(back, plain_step(table, kind, at, amount, -1))
                    self.assertEqual(step_on(found, kind, at, amount, back=True), table)
                    self.assertEqual(step_on(back, kind, at, amount), table)

    def test_example(self):
        table = Table.read("1 2 3\n4 5 6\n7 8 10")
        for kind, at, wanted in (("down", 0, "1 2 3\n6 9 12\n7 8 10"), ("up", 1, "1 2 3\n18 21 26\n7 8 10"),
                                 ("right", 1, "1 2 7\n4 5 16\n7 8 26"), ("left", 0, "5 2 3\n14 5 6\n23 8 10")):
            self.assertEqual(step_on(table=table, kind=kind, at=at, amount=TWO).words(), wanted)

    def test_sums_and_exchanges(self):
        table = random_table(random.Random(2), 5, 5)
        for kind in KINDS:
            two = step_on(step_on(table, kind, 1, ONE), kind, 1, HALF)
            self.assertEqual(two, step_on(table, kind, 1, (3, 2)))
            for other in KINDS:
                one_way = step_on(step_on(table, kind, 0, TWO), other, 3, HALF)
                self.assertEqual(one_way, step_on(step_on(table, other, 3, HALF), kind, 0, TWO))
        for kind in ("down", "up"):
            for other in ("right", "left"):
                one_way = step_on(step_on(table, kind, 1, TWO), other, 1, HALF)
                self.assertEqual(one_way, step_on(step_on(table, other, 1, HALF), kind, 1, TWO))

    def test_turned_and_half_turned(self):
        for table in TABLES[::3]:
            for at in places(table, "right"):
                self.assertEqual(step_on(table, "right", at, TWO), step_on(~table, "down", at, TWO).turned())
                self.assertEqual(step_on(table, "left", at, TWO),
                                 step_on(table.half_turned(), "right", table.wide - 2 - at, TWO).half_turned())
            for at in places(table, "up"):
                self.assertEqual(step_on(table, "up", at, TWO),
                                 step_on(table.half_turned(), "down", table.high - 2 - at, TWO).half_turned())

    def test_errors_in_order(self):
        table = Table.nought(2, 3)
        for wrong in WRONG_KINDS:
            self.refuses(BadWant("kind"), step_on, table, wrong, None, None, back=None)
        for kind in KINDS:
            last = 1 if kind in ("down", "up") else 2
            for wrong in WRONG_PLACES + (last, 99):
                self.refuses(BadBox(*place_error(kind, wrong)), step_on, table, kind, wrong, None, back=None)
            for wrong in WRONG_AMOUNTS:
                self.refuses(BadNumber(-1), step_on, table, kind, 0, wrong, back=None)
            for wrong in (None, 1, 0, "True", (True,)):
                self.refuses(BadWant("back"), step_on, table, kind, 0, ONE, back=wrong)
        for kind in KINDS:
            self.refuses(BadBox(*place_error(kind, 0)), step_on, Table.unit(1), kind, 0, ONE)

    def test_back_by_name_only(self):
        with self.assertRaises(TypeError):
            step_on(Table.unit(2), "down", 0, ONE, True)


class Steps(Case):
    def test_a_plain_step(self):
        step = Step(at=3, amount=HALF)
        self.assertEqual((step.at, step.amount, step.KIND, step.kind_word(), step.words()),
                         (3, HALF, "step", "step", "step 3 1/2"))
        for table in (Table.unit(2), Table.unit(5)):
            for call in (step.done, step.back):
                self.refuses(BadWant("kind"), call, table)

    def test_kinds(self):
        for kind, make in STEPS.items():
            step = make(1, (3, 4))
            against = kind in ("up", "left")
            self.assertEqual((step.at, step.amount, step.kind_word(), step.words()), (1, (3, 4), kind, f"{kind} 1 3/4"))
            self.assertIs(step.against, against)
            self.assertEqual(step.KIND, "row" if kind in ("down", "up") else "column")
            self.assertIsInstance(step, Step)
        self.assertIs(RowStep(0, ONE).against, False)
        self.assertIs(RowStep(0, ONE, False).against, False)
        self.assertIs(ColumnStep(0, ONE).against, False)
        self.assertEqual(RowStep(at=0, amount=ONE, up=True).words(), "up 0 1")
        self.assertEqual(ColumnStep(at=0, amount=ONE, left=True).words(), "left 0 1")
        self.assertEqual((Step.KIND, RowStep.KIND, ColumnStep.KIND), ("step", "row", "column"))

    def test_done_and_back(self):
        for table in TABLES[::2]:
            for kind, make in STEPS.items():
                for at in places(table, kind):
                    step = make(at, (3, 2))
                    self.assertEqual(step.done(table), plain_step(table, kind, at, (3, 2)))
                    self.assertEqual(step.back(table=table), plain_step(table, kind, at, (3, 2), -1))
                last = len(places(table, kind))
                for call in (make(last, ONE).done, make(last, ONE).back):
                    self.refuses(BadBox(*place_error(kind, last)), call, table)

    def test_equality(self):
        steps = [make(at, amount) for make in STEPS.values() for at in (0, 1) for amount in (ONE, HALF)]
        steps += [Step(0, ONE), Step(1, ONE), Step(0, HALF)]
        for place, one in enumerate(steps):
            for at, other in enumerate(steps):
                self.assertEqual(one == other, place == at)
                self.assertEqual(one != other, place != at)
            for value in (None, 0, one.words(), (one.at, one.amount), object()):
                self.assertFalse(one == value)
                self.assertTrue(one != value)
        for make in STEPS.values():
            self.assertTrue(make(2, HALF) == make(2, HALF))
        self.assertTrue(Step(2, HALF) == Step(2, HALF))

    def test_turned_step(self):
        for kind, turned in (("down", "right"), ("up", "left"), ("right", "down"), ("left", "up")):
            step = STEPS[kind](2, HALF)
            self.assertEqual(step.turned_step(), STEPS[turned](2, HALF))
            self.assertEqual(step.turned_step().turned_step(), step)
        for table in TABLES[::4]:
            for kind, make in STEPS.items():
                for at in places(table, kind):
                    step = make(at, TWO)
                    self.assertEqual(step.turned_step().done(~table), ~step.done(table))

    def test_half_turned_step(self):
        for kind, half in (("down", "up"), ("up", "down"), ("right", "left"), ("left", "right")):
            self.assertEqual(STEPS[kind](1, HALF).half_turned_step(5), STEPS[half](2, HALF))
            self.assertEqual(STEPS[kind](0, HALF).half_turned_step(size=12), STEPS[half](10, HALF))
        for table in TABLES[::4]:
            for kind, make in STEPS.items():
                size = table.high if kind in ("down", "up") else table.wide
                for at in places(table, kind):
                    step = make(at, TWO)
                    turned = step.half_turned_step(size)
                    self.assertEqual(turned.done(table.half_turned()), step.done(table).half_turned())
                    self.assertEqual(turned.half_turned_step(size), step)

    def test_half_turned_step_refuses(self):
        for kind, make in STEPS.items():
            for wrong in WRONG_INTEGERS + (0, 13):
                self.refuses(BadWant("size"), make(20, ONE).half_turned_step, wrong)
            for at, size in ((0, 1), (1, 2), (11, 12), (50, 12)):
                self.refuses(BadBox(*place_error(kind, at)), make(at, ONE).half_turned_step, size)
            self.assertEqual(make(10, ONE).half_turned_step(12).at, 0)

    def test_errors_in_order(self):
        for kind in (Step, RowStep, ColumnStep):
            for wrong in WRONG_PLACES:
                self.refuses(BadStep(-1), kind, wrong, None)
            for wrong in WRONG_AMOUNTS:
                self.refuses(BadNumber(-1), kind, 99, wrong)
        for kind, word in ((RowStep, "up"), (ColumnStep, "left")):
            for wrong in (None, 1, 0, "up", (True,)):
                self.refuses(BadWant(word), kind, 0, ONE, wrong)
                self.refuses(BadNumber(-1), kind, 0, None, wrong)
                self.refuses(BadStep(-1), kind, -1, None, wrong)


if __name__ == "__main__":
    unittest.main()
