import random
import unittest

from helpers import Case, plain_good, tables_of_any_sign
from minusless.coresteps import (adds_box, climb, climb_boxes, core_column_step, core_row_at, core_step, left_climb,
                                 step_pattern)
from minusless.errors import BadBox, BadNumber, NotGood
from minusless.mainrule import core_fault, stair_of
from minusless.making import made
from minusless.stairs import Stair, read_stair
from minusless.tables import Table
from minusless.unmaking import level, unmade, unmade_row
from stairhelpers import STAIRS, good_on, good_tables_on, random_stair, random_stairs, stairs_sized
from stephelpers import WRONG_AMOUNTS, WRONG_PLACES, full_many, place_error, places, plain_step

ONE, HALF = (1, 1), (1, 2)
AMOUNTS = ((1, 3), (2, 1))
# The stairs of 4 rows and columns are many; a part of them has all kinds of noughts.
CORES = [unmade(table) for table in good_tables_on(STAIRS[::2] + stairs_sized(4, 4)[::40] + stairs_sized(4, 3)[::12]
                                                   + random_stairs(60, 6, seed=8)
                                                   # Climbs are long where most boxes are full.
                                                   + [random_stair(random.Random(seed), 6, 6, 0.97)
                                                      for seed in range(20)], seed=7)]
CALLS = {"down": core_step, "up": climb, "right": core_column_step, "left": left_climb}


class Rows(Case):
    def test_core_row_at(self):
        for core in tables_of_any_sign(80, seed=171) + CORES[::9]:
            table = made(core)
            for at in range(core.high - 1):
                self.assertEqual(core_row_at(core, at), level(table, at + 1)[at])
            self.assertEqual(core_row_at(core=core, at=core.high - 1), core.rows[-1])

    def test_errors(self):
        for wrong in WRONG_PLACES + (3, 99):
            self.refuses(BadBox(wrong, -1), core_row_at, Table.nought(3, 2), wrong)


class Steps(Case):
    def check(self, kind):
        call = CALLS[kind]
        more = 0
        for core in CORES:
            table = made(core)
            for at in places(core, kind):
                for amount in AMOUNTS:
                    found = call(core, at, amount)
                    self.assertEqual(found, unmade(plain_step(table, kind, at, amount)))
                    self.assertIsNone(core_fault(found))
                    self.assertIn(full_many(found) - full_many(core), (0, 1))
                    more += full_many(found) > full_many(core)
        self.assertGreater(more, 200)
        core = CORES[-1]
        self.assertEqual(call(core=Table.unit(2), at=0, amount=ONE), call(Table.unit(2), 0, ONE))

    def test_down(self):
        self.check("down")

    def test_right(self):
        self.check("right")

    def test_up(self):
        self.check("up")

    def test_left(self):
        self.check("left")

    def test_down_changes_two_rows_alone(self):
        for core in CORES[::5]:
            for at in places(core, "down"):
                found = core_step(core, at, HALF)
                base = core_row_at(core, at)
                self.assertEqual(found.rows[at], unmade_row(base, found.rows[at + 1]))
                kept = [row for row in range(core.high) if row not in (at, at + 1)]
                self.assertTrue(all(found.rows[row] == core.rows[row] for row in kept))

    def test_twelve(self):
        rng = random.Random(1)
        core = unmade(good_on(rng, Stair.all_full(12, 12)))
        for kind, call in CALLS.items():
            for at in (0, 5, 10):
                self.assertEqual(call(core, at, HALF), unmade(plain_step(made(core), kind, at, HALF)))

    def test_errors_in_order(self):
        below, no_stair = Table.read("1 1 1\n-1 1 1"), Table.read("0 1 0\n1 0 0")
        for kind, call in CALLS.items():
            last = 1 if kind in ("down", "up") else 2
            for wrong in WRONG_PLACES + (last, 99):
                self.refuses(BadBox(*place_error(kind, wrong)), call, below, wrong, None)
            for wrong in WRONG_AMOUNTS:
                self.refuses(BadNumber(-1), call, below, 0, wrong)
            # The box is one of the core as it was passed in, for columns too.
            self.refuses(NotGood(1, 0), call, below, 0, ONE)
            self.refuses(NotGood(1, 1), call, no_stair, 0, ONE)
            self.refuses(NotGood(0, 1), call, Table.read("1 -1\n-1 1"), 0, ONE)
        self.refuses(NotGood(1, 2), core_column_step, Table.read("0 1 1\n1 1 0\n1 0 1"), 0, ONE)
        self.refuses(NotGood(1, 2), left_climb, Table.read("0 1 1\n1 1 0\n1 0 1"), 0, ONE)


class Climbs(Case):
    def test_boxes(self):
        lengths = {}
        for core in CORES:
            for at in places(core, "up"):
                boxes = climb_boxes(core, at)
                found = climb(core, at, (3, 7))
                grown = {(row, column) for row in range(core.high) for column in range(core.wide)
                         if found.entry(row, column) != core.entry(row, column)}
                self.assertEqual(set(boxes), grown)
                self.assertEqual(len(boxes), len(grown))
                self.assertEqual(climb_boxes(climb(core, at, ONE), at)[:len(boxes)], boxes)
                empty = [box for box in boxes if core.entry(*box) == (0, 1)]
                self.assertTrue(not empty or empty == [boxes[-1]])
                self.assertEqual(full_many(found) - full_many(core), len(empty))
                self.check_order(core, at, boxes)
                lengths[len(boxes)] = lengths.get(len(boxes), 0) + 1
        self.assertTrue(all(lengths.get(length, 0) > 5 for length in range(6)), lengths)

    def check_order(self, core, at, boxes):
        """The boxes come by turns: one left of the box before in its row, then one above it in its column."""
        for place, (row, column) in enumerate(boxes):
            if place == 0:
                self.assertEqual(row, at)
            elif place % 2 == 1:
                self.assertTrue(row < boxes[place - 1][0] and column < boxes[place - 1][1])
            else:
                self.assertTrue(row < boxes[place - 1][0] and column < boxes[place - 1][1])

    def test_example(self):
        core = Table.read("0 1\n1 1\n1 1")
        self.assertEqual(climb_boxes(core=core, at=1), ((1, 1), (0, 0)))
        self.assertEqual(climb(core=core, at=1, amount=ONE).words(), "1/2 1\n1 2\n1 1")
        self.assertEqual(climb_boxes(core, 0), ((0, 1),))
        self.assertEqual(climb_boxes(Table.read("1 1\n0 0"), 0), ())

    def test_left_is_up_of_the_turned_table(self):
        for core in CORES[::4]:
            for at in places(core, "left"):
                self.assertEqual(left_climb(core, at, HALF), climb(~core, at, HALF).turned())

    def test_errors_of_climb_boxes(self):
        bad = Table.read("0 1 0\n1 0 0")
        for wrong in WRONG_PLACES + (1, 2):
            self.refuses(BadBox(wrong, -1), climb_boxes, bad, wrong)
        self.refuses(NotGood(1, 1), climb_boxes, bad, 0)
        self.refuses(NotGood(0, 0), climb_boxes, Table.read("-1\n1"), 0)


class Patterns(Case):
    def test_against_the_core(self):
        adds = {True: 0, False: 0}
        rng = random.Random(2)
        for stair in STAIRS + random_stairs(60, 6, seed=9):
            core = unmade(good_on(rng, stair))
            for at in places(core, "down"):
                found = core_step(core, at, (2, 3))
                self.assertEqual(step_pattern(stair, at), Stair.of_core(found))
                more = full_many(found) > full_many(core)
                self.assertIs(adds_box(stair, at), more)
                self.assertEqual(step_pattern(stair, at).many, stair.many + more)
                adds[more] += 1
        self.assertGreater(min(adds.values()), 200)

    def test_examples(self):
        stair = read_stair("##.#\n...#")
        self.assertIs(adds_box(stair=stair, at=0), True)
        self.assertEqual(step_pattern(stair=stair, at=0), read_stair(".#.#\n##.#"))
        self.assertEqual(step_pattern(read_stair("##\n.."), 0), read_stair(".#\n##"))
        self.assertIs(adds_box(read_stair("..\n.."), 0), False)
        self.assertEqual(step_pattern(read_stair("..\n##"), 0), read_stair("..\n##"))
        self.assertIs(adds_box(read_stair("#.\n#."), 0), False)

    def test_errors(self):
        for call in (adds_box, step_pattern):
            for wrong in WRONG_PLACES + (2, 3):
                self.refuses(BadBox(wrong, -1), call, Stair.all_full(3, 5), wrong)
            self.refuses(BadBox(0, -1), call, Stair.all_full(1, 5), 0)

    def test_tables_stay_good(self):
        for core in CORES[::10]:
            if core.high <= 4 and core.wide <= 4:
                for at in places(core, "up"):
                    table = made(climb(core, at, ONE))
                    self.assertTrue(plain_good(table))
                    self.assertEqual(stair_of(table), Stair.of_core(climb(core, at, ONE)))


if __name__ == "__main__":
    unittest.main()
