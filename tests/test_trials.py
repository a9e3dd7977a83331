import random
import unittest

from deskhelpers import ONE, WRONG_STRINGS, holds_together, random_deed, state, words_of
from helpers import Case, good_tables, tables_of_any_sign
from minusless.desks import Desk
from minusless.errors import BadBox, BadDeed, BadWant, Ended, NoStep, NotGood, OtherSize, TooMany
from minusless.raising import entry_stretch
from minusless.tables import Table
from minusless.trials import Trial, best_raise, tried
from stairhelpers import BOXES_OUTSIDE, STAIRS, good_tables_on

TABLE = Table.read("1 1 0\n1 2 1")
TABLES = good_tables_on(STAIRS[::25], seed=161) + good_tables(10, most=3, seed=162) + tables_of_any_sign(15, 3, seed=163)


def used_desk():
    """A desk with two deeds and a mark put between them."""
    desk = Desk(TABLE, marked=(0, 0))
    desk.step("down", 0, ONE)
    desk.put_mark((1, 2))
    desk.turn()
    return desk


def all_states(desk):
    """What the desk holds now and behind each undo, told by a desk that goes the same way."""
    found = [state(desk)]
    trial = Trial(desk)
    trial.begin()
    while desk.deeds:
        desk.undo()
        found.append(state(desk))
    trial.finish()
    return found


class Unlike(Exception):
    """An error that the package does not know."""


class WithBlocks(Case):
    def test_all_is_put_back(self):
        rng = random.Random(164)
        for table in TABLES:
            desk = Desk(table, marked=(0, 0))
            for _ in range(3):
                word, arguments, _ = random_deed(rng, desk.table)
                getattr(desk, word)(*arguments)
            before = all_states(desk)
            trial = Trial(desk)
            self.assertIs(trial.desk, desk)
            self.assertIs(trial.ended, False)
            with trial as same:
                self.assertIs(same, desk)
                self.assertIs(trial.ended, False)
                for _ in range(3):
                    word, arguments, behind = random_deed(rng, desk.table)
                    getattr(desk, word)(*arguments)
                    self.assertEqual(desk.table, behind)
                desk.put_mark(None)
                if rng.random() < 0.5:
                    desk.go_back(rng.randint(0, len(desk.deeds)))
            self.assertIs(trial.ended, True)
            self.assertEqual(all_states(desk), before)
            self.assertTrue(holds_together(desk))

    def test_errors_go_on(self):
        for error in (Unlike(), ValueError(), BadBox(1, 2), KeyboardInterrupt()):
            desk = used_desk()
            before = all_states(desk)
            trial = Trial(desk)
            with self.assertRaises(type(error)) as caught:
                with trial as same:
                    same.turn()
                    same.marked = None
                    raise error
            self.assertIs(caught.exception, error)
            self.assertIs(trial.ended, True)
            self.assertEqual(all_states(desk), before)

    def test_errors_inside(self):
        desk = used_desk()
        before = all_states(desk)
        with Trial(desk) as same:
            same.half_turn()
            self.refuses(BadBox(99, -1), same.leave_row, 99)
            self.refuses(BadDeed("x"), same.carry_out, "x")
            self.assertEqual(len(same.deeds), 3)
        self.assertEqual(all_states(desk), before)
        with self.assertRaises(BadBox):
            with Trial(desk) as same:
                same.turn()
                same.leave_row(99)
        self.assertEqual(all_states(desk), before)

    def test_finish_inside(self):
        desk = used_desk()
        before = all_states(desk)
        trial = Trial(desk)
        with trial as same:
            same.turn()
            self.assertIsNone(trial.finish())
            self.assertEqual(state(desk), before[0])
            self.assertIs(trial.ended, True)
            # What is done now is put back, too.
            same.half_turn()
            same.put_mark(None)
            self.refuses(Ended(), trial.finish)
        self.assertEqual(all_states(desk), before)
        self.assertIs(trial.ended, True)

    def test_begun_twice(self):
        desk = used_desk()
        trial = Trial(desk)
        with trial:
            desk.turn()
            self.refuses(Ended(), trial.begin)
            with self.assertRaises(Ended):
                with trial:
                    self.fail("begun twice")
            self.assertEqual(len(desk.deeds), 3)
            self.assertIs(trial.ended, False)
        self.assertEqual(len(desk.deeds), 2)
        with self.assertRaises(Ended):
            with trial:
                self.fail("begun twice")
        self.refuses(Ended(), trial.begin)
        self.refuses(Ended(), trial.finish)

    def test_the_state_is_that_of_the_beginning(self):
        desk = used_desk()
        trial = Trial(desk)
        desk.turn()
        desk.put_mark((0, 1))
        before = all_states(desk)
        with trial:
            desk.turn()
        self.assertEqual(all_states(desk), before)
        self.assertEqual(len(desk.deeds), 3)

    def test_one_in_another(self):
        desk = used_desk()
        before = all_states(desk)
        with Trial(desk):
            desk.turn()
            middle = all_states(desk)
            with Trial(desk):
                desk.half_turn()
                desk.go_back(2)
            self.assertEqual(all_states(desk), middle)
        self.assertEqual(all_states(desk), before)


class BeginAndFinish(Case):
    def test_begin_and_finish(self):
        desk = used_desk()
        before = all_states(desk)
        trial = Trial(desk=desk)
        self.refuses(NoStep(), trial.finish)
        self.assertIs(trial.ended, False)
        self.assertIs(trial.begin(), desk)
        self.assertIs(trial.ended, False)
        self.refuses(Ended(), trial.begin)
        desk.turn()
        desk.undo()
        desk.undo()
        desk.step("down", 0, (1, 7))
        desk.marked = (0, 1)
        self.assertIsNone(trial.finish())
        self.assertIs(trial.ended, True)
        self.assertEqual(all_states(desk), before)
        self.refuses(Ended(), trial.finish)
        self.refuses(Ended(), trial.begin)
        desk.turn()
        self.refuses(Ended(), trial.finish)
        self.assertEqual(len(desk.deeds), 3)

    def test_two_trials_of_one_desk(self):
        desk = used_desk()
        before = all_states(desk)
        one, other = Trial(desk), Trial(desk)
        one.begin()
        desk.turn()
        middle = all_states(desk)
        other.begin()
        desk.half_turn()
        # The first one ends ahead of the second one.
        one.finish()
        self.assertEqual(all_states(desk), before)
        self.assertEqual((one.ended, other.ended), (True, False))
        other.finish()
        self.assertEqual(all_states(desk), middle)
        self.assertEqual((one.ended, other.ended), (True, True))


class Tried(Case):
    def test_verdicts(self):
        rng = random.Random(165)
        for table in TABLES:
            desk = Desk(table, marked=(0, 0))
            desk.turn()
            before = all_states(desk)
            strings, verdicts, now = [], [], Desk(desk.table)
            for _ in range(rng.randint(0, 4)):
                word, arguments, _ = random_deed(rng, now.table)
                strings.append(words_of(word, arguments))
                verdicts.append(getattr(now, word)(*arguments)[1])
            self.assertEqual(tried(desk, list(strings)), tuple(verdicts))
            self.assertEqual(tried(desk=desk, texts=tuple(strings)), tuple(verdicts))
            self.assertEqual(all_states(desk), before)
        self.assertEqual(tried(Desk(Table.read("1")), ["raise_entry 0 0 -2", "raise_entry 0 0 1"]),
                         ("not good", "good"))

    def test_errors(self):
        desk = used_desk()
        before = all_states(desk)
        for wrong in (None, 1, "turn", {}, {"turn": 1}):
            self.refuses(BadDeed(""), tried, desk, wrong)
        for words, word in WRONG_STRINGS:
            self.refuses(BadDeed(word), tried, desk, ["turn", words, "leave_row 99"])
            self.assertEqual(all_states(desk), before)
        for words, wanted in ((None, BadDeed("")), ("leave_row 99", BadBox(99, -1)), ("take_with 1", OtherSize(2, 1)),
                              ("step x 0 1", BadWant("kind"))):
            self.refuses(wanted, tried, desk, ("half_turn", "turn", "turn", words, "x"))
            self.assertEqual(all_states(desk), before)

    def test_two_hundred(self):
        desk = Desk(TABLE)
        for _ in range(198):
            desk.turn()
        before = state(desk)
        self.assertEqual(tried(desk, ["turn", "turn"]), ("good", "good"))
        self.refuses(TooMany(200), tried, desk, ["turn"] * 3)
        self.refuses(BadDeed("x"), tried, desk, ["turn"] * 2 + ["x"])
        self.assertEqual(state(desk), before)
        desk.turn()
        desk.turn()
        self.assertEqual(tried(desk, []), ())
        self.refuses(TooMany(200), tried, desk, ["turn"])


class BestRaise(Case):
    def test_as_the_stretch(self):
        for table in TABLES:
            desk = Desk(table)
            before = state(desk)
            for row in range(table.high):
                for column in range(table.wide):
                    if desk.verdict == "good":
                        self.assertEqual(best_raise(desk, row, column), entry_stretch(table, row, column))
                        self.assertEqual(best_raise(desk=desk, row=row, column=column),
                                         entry_stretch(table, row, column))
                    else:
                        with self.assertRaises(NotGood):
                            best_raise(desk, row, column)
            self.assertEqual(state(desk), before)

    def test_errors(self):
        desk = Desk(TABLE)
        for row, column in BOXES_OUTSIDE + ((2, 0), (0, 3)):
            self.refuses(BadBox(row, column), best_raise, desk, row, column)
        self.refuses(TooMany(5), best_raise, Desk(Table.nought(6, 1)), 0, 0)
        self.refuses(NotGood(0, 0), best_raise, Desk(Table.read("1 2\n2 1")), 1, 1)


if __name__ == "__main__":
    unittest.main()
