import random
import unittest

from helpers import Case, num, tables_of_any_sign
from minusless.errors import BadBox, BadStep, NotGood, OtherSize
from minusless.mainrule import core_fault, is_good, stair_of
from minusless.minors import rank_of
from minusless.runs import Run, boxes_between, peeled, run_of
from minusless.stairs import Stair
from minusless.steps import ColumnStep, RowStep, Step
from minusless.tables import Table
from minusless.takingback import may_take, take_most, takeable
from minusless.unmaking import unmade
from stairhelpers import STAIRS, good_on, good_tables_on, random_stairs
from stephelpers import full_many, place_error, places

ONE, TWO, HALF = (1, 1), (2, 1), (1, 2)
TABLES = good_tables_on(STAIRS[::3] + random_stairs(40, 5, seed=11), seed=9)


def random_steps(rng, table, many):
    steps = []
    for _ in range(many):
        kind = rng.choice((RowStep, ColumnStep))
        size = table.high if kind is RowStep else table.wide
        if size > 1:
            steps.append(kind(rng.randrange(size - 1), num(rng.randint(1, 3)), rng.random() < 0.5))
    return steps


class Runs(Case):
    def test_done_cores_and_growth(self):
        rng = random.Random(1)
        for table in TABLES:
            steps = random_steps(rng, table, rng.randint(0, 5))
            run = Run(steps)
            tables = [table]
            for step in steps:
                tables.append(step.done(tables[-1]))
            self.assertEqual(run.done(table), tables[-1])
            self.assertEqual(run.cores(table), tuple(unmade(behind) for behind in tables[1:]))
            growth = run.growth(table)
            self.assertEqual(growth, tuple(full_many(unmade(behind)) for behind in tables))
            self.assertTrue(all(later - before in (0, 1) for before, later in zip(growth, growth[1:])))
            self.assertTrue(all(is_good(behind) and rank_of(behind) == rank_of(table) for behind in tables))
            self.assertGreaterEqual(len(run), boxes_between(table, run.done(table)))

    def test_done_on_any_table(self):
        rng = random.Random(2)
        for table in tables_of_any_sign(40, seed=181):
            steps = random_steps(rng, table, 3)
            wanted = table
            for step in steps:
                wanted = step.done(wanted)
            self.assertEqual(Run(steps=steps).done(table=table), wanted)

    def test_the_empty_run(self):
        table = Table.read("1 1\n1 2")
        for run in (Run(), Run([]), Run(()), run_of()):
            self.assertEqual((run.steps, len(run), list(run)), ((), 0, []))
            self.assertEqual((run.done(table), run.cores(table), run.growth(table)), (table, (), (4,)))
            self.assertEqual(run.turned_run(), run)

    def test_turned_run(self):
        rng = random.Random(3)
        for table in TABLES[::3]:
            run = Run(random_steps(rng, table, 4))
            turned = run.turned_run()
            self.assertEqual(turned.steps, tuple(step.turned_step() for step in run.steps))
            self.assertEqual(turned.done(~table), ~run.done(table))
            self.assertEqual(turned.turned_run(), run)

    def test_sums_equality_and_iteration(self):
        one, two, three = RowStep(0, ONE), ColumnStep(1, TWO), RowStep(0, ONE, True)
        run = Run([one, two])
        self.assertEqual((run + run_of(three)).steps, (one, two, three))
        self.assertEqual((run_of(three) + run).steps, (three, one, two))
        self.assertIsInstance(run + run, Run)
        self.assertTrue(run == run_of(RowStep(0, ONE), ColumnStep(1, TWO)))
        for other in (Run([two, one]), Run([one]), Run([one, two, two]), Run([one, ColumnStep(1, ONE)]),
                      [one, two], (one, two), None, "run"):
            self.assertFalse(run == other)
            self.assertTrue(run != other)
        self.assertEqual((len(run), list(run), tuple(run.steps)), (2, [one, two], (one, two)))
        for other in (None, [one], (one,), one):
            with self.assertRaises(TypeError):
                run + other

    def test_the_steps_are_kept(self):
        steps = [RowStep(0, ONE)]
        run = Run(steps)
        steps.append(RowStep(1, ONE))
        self.assertEqual(len(run), 1)
        self.assertIsInstance(run.steps, tuple)

    def test_wrong_steps(self):
        step = RowStep(0, ONE)
        for wrong in (None, 1, "", {}, step, {0: step}):
            self.refuses(BadStep(-1), Run, wrong)
        for wrong in (None, "down 0 1", Step(0, ONE), (0, ONE), 0, [step]):
            self.refuses(BadStep(0), Run, [wrong, None])
            self.refuses(BadStep(2), Run, (step, ColumnStep(0, ONE), wrong))
            self.refuses(BadStep(1), run_of, step, wrong)

    def test_places_that_do_not_fit(self):
        table = Table.read("1 1\n1 2")
        run = run_of(RowStep(0, ONE), ColumnStep(1, ONE), RowStep(7, ONE))
        for call in (run.done, run.cores, run.growth):
            self.refuses(BadBox(-1, 1), call, table)
        for call in (run_of(RowStep(3, ONE, True)).done, run_of(RowStep(3, ONE, True)).growth):
            self.refuses(BadBox(3, -1), call, table)
        bad = Table.read("0 1\n1 0")
        for call in (run.cores, run.growth):
            self.refuses(NotGood(1, 1), call, bad)
        self.refuses(BadBox(-1, 1), run.done, bad)
        for call in (Run().cores, Run().growth):
            self.refuses(NotGood(1, 1), call, bad)


def plain_deed(table):
    """The first deed of the document's list that can be done, None if none can."""
    for at in range(table.high):
        if table.high > 1 and table.has_nought_row(at):
            return ("row", at)
    for at in range(table.wide):
        if table.wide > 1 and (~table).has_nought_row(at):
            return ("column", at)
    for kind in ("down", "right"):
        for at in places(table, kind):
            if may_take(table, kind, at):
                return (kind, at)
    return None


def behind(table, deed):
    word, at = deed
    if word == "row":
        return table.without_row(at)
    if word == "column":
        return table.without_column(at)
    return take_most(table, word, at)


def possible_deeds(table):
    found = [("row", at) for at in range(table.high) if table.high > 1 and table.has_nought_row(at)]
    found += [("column", at) for at in range(table.wide) if table.wide > 1 and (~table).has_nought_row(at)]
    return found + [(kind, at) for kind, at in takeable(table) if kind in ("down", "right")]


def is_left(table, rank):
    """Whether this is what the document says that is left."""
    if rank == 0:
        return table == Table.nought(1, 1)
    core = table
    return (table.high, table.wide) == (rank, rank) and all(
        (number[0] > 0) if row == column else number == (0, 1)
        for row, line in enumerate(core.rows) for column, number in enumerate(line))


class Peeling(Case):
    def test_against_the_words(self):
        words = {}
        for table in TABLES + good_tables_on([Stair.all_empty(3, 2), Stair.all_empty(1, 1), Stair.all_full(4, 3)]):
            left, deeds = peeled(table)
            now, wanted = table, []
            while (deed := plain_deed(now)) is not None:
                wanted.append(deed)
                now = behind(now, deed)
            self.assertEqual((left, deeds), (now, tuple(wanted)))
            rank = rank_of(table)
            self.assertTrue(is_left(left, rank))
            taken = [deed for deed in deeds if deed[0] in ("down", "right")]
            self.assertEqual(len(taken), stair_of(table).many - rank)
            for word, _ in deeds:
                words[word] = words.get(word, 0) + 1
        self.assertEqual(set(words), {"row", "column", "down", "right"})
        self.assertGreater(min(words.values()), 40)

    def test_other_orders(self):
        rng = random.Random(4)
        for table in TABLES[::3]:
            _, deeds = peeled(table=table)
            wanted = len([deed for deed in deeds if deed[0] in ("down", "right")])
            now, many = table, 0
            while deeds_now := possible_deeds(now):
                deed = rng.choice(deeds_now)
                many += deed[0] in ("down", "right")
                now = behind(now, deed)
            self.assertTrue(is_left(now, rank_of(table)))
            self.assertEqual(many, wanted)

    def test_examples(self):
        self.assertEqual(peeled(Table.read("2")), (Table.read("2"), ()))
        self.assertEqual(peeled(Table.nought(1, 1)), (Table.nought(1, 1), ()))
        self.assertEqual(peeled(Table.nought(2, 2)), (Table.nought(1, 1), (("row", 0), ("column", 0))))
        self.assertEqual(peeled(Table.unit(3)), (Table.unit(3), ()))
        self.assertEqual(peeled(Table.read("1 1\n1 2")), (Table.unit(2), (("down", 0), ("right", 0))))

    def test_not_good(self):
        for table in tables_of_any_sign(40, seed=182):
            fault = core_fault(unmade(table))
            if fault is not None:
                self.refuses(NotGood(*fault), peeled, table)


class Between(Case):
    def test_against_cores(self):
        below = 0
        for one in TABLES[::2]:
            for other in TABLES[::3]:
                if (one.high, one.wide) == (other.high, other.wide):
                    found = boxes_between(one, other)
                    self.assertEqual(found, full_many(unmade(other)) - full_many(unmade(one)))
                    below += found < 0
        self.assertGreater(below, 40)
        self.assertEqual(boxes_between(one=Table.unit(2), other=Table.read("1 1\n1 2")), 2)
        self.assertEqual(boxes_between(Table.read("1 1\n1 2"), Table.unit(2)), -2)

    def test_half_turned(self):
        for table in TABLES:
            self.assertEqual(boxes_between(table, table.half_turned()), 0)

    def test_errors_in_order(self):
        bad, worse = Table.read("0 1\n1 0"), Table.read("-1 0\n0 0")
        self.refuses(OtherSize(2, 4), boxes_between, bad, Table.nought(4, 3))
        self.refuses(OtherSize(2, 3), boxes_between, bad, Table.nought(2, 3))
        self.refuses(OtherSize(3, 2), boxes_between, Table.nought(2, 3), bad)
        self.refuses(NotGood(1, 1), boxes_between, bad, worse)
        self.refuses(NotGood(0, 0), boxes_between, worse, bad)
        self.refuses(NotGood(0, 0), boxes_between, Table.unit(2), worse)


class Places(Case):
    def test_place_errors_of_each_kind(self):
        table = Table.unit(2)
        for step, kind in ((RowStep(1, HALF), "down"), (ColumnStep(1, HALF), "right")):
            self.refuses(BadBox(*place_error(kind, 1)), Run([step]).done, table)

    def test_twelve(self):
        table = good_on(random.Random(5), Stair.all_full(12, 12))
        run = run_of(RowStep(10, ONE), ColumnStep(10, ONE, True), RowStep(0, HALF, True))
        self.assertEqual(run.growth(table), (144,) * 4)


if __name__ == "__main__":
    unittest.main()
