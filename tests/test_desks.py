import random
import unittest

from deskhelpers import (NOUGHT, ONE, WRONG_STRINGS, holds_together, plain_verdict, random_deed, state, triple,
                         words_of)
from helpers import WRONG_INTEGERS, Case, good_tables, plain_good, tables_of_any_sign
from minusless.desks import Desk, read_deed
from minusless.errors import (BadBox, BadDeed, BadNumber, BadWant, NoStep, OtherSize, TooMany)
from minusless.finding import paper_for
from minusless.minors import rank_of
from minusless.numbering import number_of_stair
from minusless.passages import up
from minusless.stairs import Stair
from minusless.tables import Table
from minusless.takingback import may_take
from stairhelpers import BOXES_OUTSIDE, STAIRS, good_on, good_tables_on, random_stair

TABLE = Table.read("1 1 0\n1 2 1")
TABLES = good_tables_on(STAIRS[::20], seed=151) + good_tables(15, most=3, seed=152) + tables_of_any_sign(25, 3, seed=153)
WRONG_MARKS = (1, "00", "", (), (0,), [0, 0, 0], {0: 0, 1: 1}, ONE + (1,))


def random_mark(rng, table):
    return rng.choice((None, (rng.randrange(table.high), rng.randrange(table.wide))))


class Building(Case):
    def test_what_a_desk_holds(self):
        for table in TABLES:
            desk = Desk(table)
            self.assertIs(desk.table, table)
            self.assertTrue(holds_together(desk))
            self.assertEqual(desk.verdict == "good", plain_good(table))
            self.assertEqual((desk.deeds, desk.marked), ((), None))
            self.assertTrue(type(desk.pattern) is tuple and all(type(row) is tuple for row in desk.pattern))
            self.assertIsInstance(desk.core, Table)
            paper = desk.paper()
            self.assertEqual((type(paper), paper), (type(paper_for(table)), paper_for(table)))
            self.assertTrue(paper.holds())
            self.assertEqual(desk.ranks(), rank_of(table))
            self.assertEqual(desk.cell(), number_of_stair(Stair(desk.pattern)) if plain_good(table) else None)
        self.assertIs(Desk(table=TABLE, marked=None).table, TABLE)

    def test_marks(self):
        desk = Desk(TABLE)
        for mark in ((1, 2), [0, 0], None, (0, 1)):
            wanted = None if mark is None else tuple(mark)
            for made in (Desk(TABLE, marked=mark), desk):
                made.marked = mark
                self.assertEqual(made.marked, wanted)
                self.assertIs(type(made.marked), type(wanted))
            self.assertEqual(Desk(TABLE, marked=mark).marked, wanted)
            desk.marked = None
            self.assertIsNone(desk.put_mark(box=mark))
            self.assertEqual((desk.marked, desk.deeds), (wanted, ()))
        mark = [0, 0]
        desk.put_mark(mark)
        mark[0] = 1
        self.assertEqual(desk.marked, (0, 0))

    def assign(self, desk, mark):
        desk.marked = mark

    def test_wrong_marks(self):
        desk = Desk(TABLE, marked=(1, 1))
        for call in (lambda mark: Desk(TABLE, marked=mark), desk.put_mark, lambda mark: self.assign(desk, mark)):
            for wrong in WRONG_MARKS:
                self.refuses(BadBox(-1, -1), call, wrong)
            for row, column in BOXES_OUTSIDE + ((2, 0), (0, 3), (-1, -1)):
                self.refuses(BadBox(row, column), call, (row, column))
                self.refuses(BadBox(row, column), call, [row, column])
            self.assertEqual(desk.marked, (1, 1))
        with self.assertRaises(TypeError):
            Desk(TABLE, (0, 0))


class Deeds(Case):
    def test_each_deed_and_its_string(self):
        rng = random.Random(154)
        words_seen = set()
        for table in TABLES:
            desk, other = Desk(table, marked=random_mark(rng, table)), None
            other = Desk(table, marked=desk.marked)
            strings = []
            now = table
            for _ in range(6):
                word, arguments, behind = random_deed(rng, now)
                words_seen.add(word)
                strings.append(words_of(word, arguments))
                if rng.random() < 0.3:
                    mark = random_mark(rng, now)
                    desk.marked = other.marked = mark
                old = desk.marked
                listed = [list(part) if isinstance(part, tuple) and part and isinstance(part[0], tuple) else part
                          for part in arguments]
                before = state(desk)
                self.assertEqual(desk.what_if(strings[-1]), plain_verdict(behind))
                self.assertEqual(state(desk), before)
                self.assertEqual(getattr(desk, word)(*listed), triple(now, behind))
                self.assertEqual(other.carry_out(strings[-1]), triple(now, behind))
                self.assertEqual(desk.deeds, tuple(strings))
                self.assertEqual(desk.table, behind)
                self.assertTrue(holds_together(desk))
                stays = old is not None and old[0] < behind.high and old[1] < behind.wide
                self.assertEqual(desk.marked, old if stays else None)
                self.assertEqual(state(other), state(desk))
                self.assertEqual(read_deed(strings[-1]), (word, arguments))
                now = behind
            # The strings, carried out on a new desk, lead to the same table.
            new = Desk(table)
            for words in desk.deeds:
                new.carry_out(words=words)
            self.assertEqual((new.table, new.deeds), (desk.table, desk.deeds))
        self.assertEqual(len(words_seen), 11)

    def test_by_name(self):
        desk = Desk(TABLE)
        desk.step(kind="up", at=0, amount=ONE)
        desk.take_back(kind="up", at=0, amount=ONE)
        desk.raise_entry(row=0, column=0, number=ONE)
        desk.put_row(at=0, row=[ONE] * 3)
        desk.put_column(at=3, column=[ONE] * 3)
        desk.leave_row(at=0)
        desk.leave_column(at=3)
        desk.copy_row(at=1)
        desk.take_with(table=Table.unit(3))
        desk.turn()
        desk.half_turn()
        self.assertEqual(desk.deeds, ("step up 0 1", "take_back up 0 1", "raise_entry 0 0 1", "put_row 0 1 1 1",
                                      "put_column 3 1 1 1", "leave_row 0", "leave_column 3", "copy_row 1",
                                      "take_with 1 0 0;0 1 0;0 0 1", "turn", "half_turn"))
        self.assertEqual(desk.table, Table.read("2 1 0\n1 2 1\n1 2 1").turned().half_turned())

    def test_the_mark_of_a_smaller_table(self):
        for mark, left in (((1, 2), None), ((0, 2), (0, 2)), ((1, 0), None)):
            desk = Desk(TABLE, marked=mark)
            desk.leave_row(0)
            self.assertEqual(desk.marked, left)
        desk = Desk(TABLE, marked=(0, 2))
        desk.leave_column(0)
        self.assertIsNone(desk.marked)
        desk.put_column(0, [ONE, ONE])
        self.assertIsNone(desk.marked)
        desk.undo()
        self.assertIsNone(desk.marked)
        desk.undo()
        self.assertEqual((desk.marked, desk.table), ((0, 2), TABLE))

    def test_full_boxes(self):
        rng = random.Random(155)
        for table in good_tables_on(STAIRS[::10], seed=156):
            desk = Desk(table)
            for kind in ("down", "up", "right", "left"):
                for at in range((table.high if kind in ("down", "up") else table.wide) - 1):
                    before, after, more = desk.step(kind, at, (1, 2))
                    self.assertEqual((before, after), ("good", "good"))
                    self.assertIn(more, (0, 1))
                    desk.undo()
                    if may_take(table, kind, at):
                        before, after, more = desk.take_back(kind, at, (1, rng.choice((2, 5, 99))))
                        self.assertTrue(after == "not good" or more in (0, -1))
                        desk.undo()
            row = [ONE] * table.wide
            desk.put_row(0, row)
            self.assertEqual(desk.core.rows, (up(table, row),) + Desk(table).core.rows)


class Errors(Case):
    def refused(self, desk, wanted, method, *arguments):
        before = state(desk)
        self.refuses(wanted, method, *arguments)
        self.assertEqual(state(desk), before)

    def test_errors_of_the_deeds(self):
        desk = Desk(TABLE, marked=(1, 2))
        desk.step("down", 0, ONE)
        for method in (desk.step, desk.take_back):
            self.refused(desk, BadWant("kind"), method, "Down", None, None)
            self.refused(desk, BadBox(1, -1), method, "down", 1, None)
            self.refused(desk, BadBox(-1, 2), method, "left", 2, ONE)
            self.refused(desk, BadNumber(-1), method, "left", 1, NOUGHT)
            self.refused(desk, BadNumber(-1), method, "left", 1, 1)
        self.refused(desk, BadBox(2, 0), desk.raise_entry, 2, 0, ONE)
        self.refused(desk, BadNumber(-1), desk.raise_entry, 0, 0, 1)
        self.refused(desk, BadBox(3, -1), desk.put_row, 3, [ONE] * 3)
        self.refused(desk, BadNumber(1), desk.put_row, 0, [ONE, 1, ONE])
        self.refused(desk, OtherSize(2, 3), desk.put_row, 0, [ONE] * 2)
        self.refused(desk, OtherSize(0, 3), desk.put_row, 0, [])
        self.refused(desk, BadBox(-1, 4), desk.put_column, 4, [ONE] * 2)
        self.refused(desk, BadNumber(-1), desk.put_column, 0, None)
        self.refused(desk, OtherSize(3, 2), desk.put_column, 0, [ONE] * 3)
        self.refused(desk, BadBox(2, -1), desk.leave_row, 2)
        self.refused(desk, BadBox(-1, 3), desk.leave_column, 3)
        self.refused(desk, BadBox(2, -1), desk.copy_row, 2)
        self.refused(desk, OtherSize(3, 2), desk.take_with, Table.unit(2))
        for method in (Desk(Table.unit(1)).leave_row, Desk(Table.unit(1)).leave_column):
            self.refuses(TooMany(1), method, 0)
        desk = Desk(Table.unit(12), marked=(11, 11))
        for method, arguments in ((desk.put_row, (0, [ONE] * 12)), (desk.put_column, (0, [ONE] * 12)),
                                  (desk.copy_row, (0,))):
            self.refused(desk, TooMany(12), method, *arguments)

    def test_errors_of_strings(self):
        desk = Desk(TABLE, marked=(1, 2))
        for words, word in WRONG_STRINGS:
            for method in (desk.carry_out, desk.what_if, read_deed):
                self.refused(desk, BadDeed(word), method, words)
        for wrong in (None, 1, b"turn", ["turn"], ("turn",), True):
            for method in (desk.carry_out, desk.what_if, read_deed):
                self.refused(desk, BadDeed(""), method, wrong)
        for method in (desk.carry_out, desk.what_if):
            for words, wanted in (("step Down 0 1", BadWant("kind")), ("step a\tb 0 1", BadWant("kind")),
                                  ("step down -1 1", BadBox(-1, -1)), ("step down 0 0", BadNumber(-1)),
                                  ("take_back right 0 -1/2", BadNumber(-1)), ("raise_entry -1 0 1", BadBox(-1, 0)),
                                  ("put_row 0 1", OtherSize(1, 3)), ("put_row -3 1", BadBox(-3, -1)),
                                  ("put_column 0 1", OtherSize(1, 2)), ("leave_row 2", BadBox(2, -1)),
                                  ("leave_column -1", BadBox(-1, -1)), ("copy_row 9", BadBox(9, -1)),
                                  ("take_with 1", OtherSize(3, 1)), ("put_row 0 " + " ".join(["1"] * 13), OtherSize(13, 3)),
                                  ("leave_row " + "1" * 60, BadBox(int("1" * 60), -1))):
                self.refused(desk, wanted, method, words)
        self.refuses(TooMany(1), Desk(Table.unit(1)).what_if, "leave_row 0")


class Reading(Case):
    def test_each_word(self):
        long = "9" * 60
        for words, wanted in (("step down 0 1", ("step", ("down", 0, ONE))),
                              ("step a\tb -7 -1/2", ("step", ("a\tb", -7, (-1, 2)))),
                              ("take_back ; 10 0", ("take_back", (";", 10, NOUGHT))),
                              ("raise_entry -1 2 3/4", ("raise_entry", (-1, 2, (3, 4)))),
                              ("put_row 0 1", ("put_row", (0, (ONE,)))),
                              ("put_row 0 1 -2 1/3", ("put_row", (0, (ONE, (-2, 1), (1, 3))))),
                              ("put_column 5 0 0", ("put_column", (5, (NOUGHT, NOUGHT)))),
                              ("leave_row 3", ("leave_row", (3,))), ("leave_column -2", ("leave_column", (-2,))),
                              ("copy_row 0", ("copy_row", (0,))), ("turn", ("turn", ())),
                              ("half_turn", ("half_turn", ())),
                              ("take_with 1 2;3 4/5", ("take_with", (Table.read("1 2\n3 4/5"),))),
                              ("take_with 0", ("take_with", (Table.read("0"),))),
                              ("put_row -" + long + " " + long, ("put_row", (-int(long), ((int(long), 1),)))),
                              ("put_row 0 " + " ".join(["1"] * 20), ("put_row", (0, (ONE,) * 20)))):
            self.assertEqual(read_deed(words), wanted)
            self.assertEqual(read_deed(words=words), wanted)
            self.assertIs(type(read_deed(words)[1]), tuple)


class GoingBack(Case):
    def test_every_number(self):
        rng = random.Random(157)
        for table in TABLES[:30]:
            desk = Desk(table, marked=random_mark(rng, table))
            states = [state(desk)]
            for _ in range(5):
                word, arguments, _ = random_deed(rng, desk.table)
                getattr(desk, word)(*arguments)
                states.append(state(desk))
                # A mark put between the deeds belongs to the state ahead of the next one.
                if rng.random() < 0.5:
                    desk.marked = random_mark(rng, desk.table)
                    states[-1] = state(desk)
            for wrong in WRONG_INTEGERS + (6,):
                self.refuses(BadWant("many"), desk.go_back, wrong)
            many = rng.randint(0, 5)
            last = states[-1]
            self.assertEqual(desk.go_back(many), triple(last[0], states[5 - many][0]))
            self.assertEqual(state(desk), states[5 - many])
            self.assertTrue(holds_together(desk))
            while desk.deeds:
                before = desk.table
                self.assertEqual(desk.undo(), triple(before, states[len(desk.deeds)][0]))
                self.assertEqual(state(desk), states[len(desk.deeds)])
            self.refuses(NoStep(), desk.undo)
            self.assertEqual(desk.go_back(many=0), (desk.verdict, desk.verdict, 0))
            self.refuses(BadWant("many"), desk.go_back, 1)
            self.assertEqual(state(desk), states[0])

    def test_a_mark_put_since_then_is_lost(self):
        desk = Desk(TABLE, marked=(0, 0))
        desk.turn()
        desk.put_mark((2, 1))
        self.assertEqual(desk.go_back(0), ("good", "good", 0))
        self.assertEqual(desk.marked, (2, 1))
        desk.turn()
        self.assertIsNone(desk.marked)
        desk.undo()
        self.assertEqual(desk.marked, (2, 1))
        desk.put_mark(None)
        desk.undo()
        self.assertEqual(desk.marked, (0, 0))


class TwoHundred(Case):
    def test_the_bound(self):
        desk = Desk(TABLE, marked=(0, 1))
        for _ in range(200):
            desk.turn()
        full = state(desk)
        self.assertEqual(len(desk.deeds), 200)
        for method, arguments in ((desk.turn, ()), (desk.half_turn, ()), (desk.step, ("down", 0, ONE)),
                                  (desk.take_back, ("left", 0, ONE)), (desk.raise_entry, (0, 0, ONE)),
                                  (desk.put_row, (0, [ONE] * 3)), (desk.put_column, (0, [ONE] * 2)),
                                  (desk.leave_row, (0,)), (desk.leave_column, (0,)), (desk.copy_row, (0,)),
                                  (desk.take_with, (Table.unit(3),)), (desk.carry_out, ("turn",))):
            self.refuses(TooMany(200), method, *arguments)
            self.assertEqual(state(desk), full)
        self.refuses(BadBox(2, -1), desk.leave_row, 2)
        self.refuses(BadDeed("turn"), desk.carry_out, "turn ")
        self.refuses(OtherSize(3, 2), desk.carry_out, "take_with 1 0;0 1")
        self.assertEqual(desk.what_if("raise_entry 0 0 -5"), "not good")
        self.assertEqual(desk.what_if(words="turn"), "good")
        self.refuses(BadBox(2, -1), desk.what_if, "leave_row 2")
        self.assertEqual(state(desk), full)
        desk.put_mark((1, 2))
        self.assertEqual(desk.marked, (1, 2))
        self.assertEqual(desk.undo(), ("good", "good", 0))
        self.assertEqual(desk.turn(), ("good", "good", 0))
        self.refuses(TooMany(200), desk.turn)
        self.refuses(BadWant("many"), desk.go_back, 201)
        self.assertEqual(desk.go_back(200), ("good", "good", 0))
        self.assertEqual((desk.table, desk.deeds, desk.marked), (TABLE, (), (0, 1)))


class Large(Case):
    def test_twelve(self):
        rng = random.Random(158)
        table = good_on(rng, random_stair(rng, 12, 12, 0.6))
        desk = Desk(table, marked=[11, 11])
        self.assertTrue(holds_together(desk))
        self.assertEqual(desk.cell(), number_of_stair(Stair(desk.pattern)))
        self.assertEqual(desk.ranks(), rank_of(table))
        self.assertTrue(desk.paper().holds())
        self.assertEqual(desk.step("up", 10, ONE)[:2], ("good", "good"))
        self.assertEqual(desk.raise_entry(11, 11, (-10 ** 9, 1))[1], "not good")
        self.assertTrue(holds_together(desk))
        self.assertIsNone(desk.cell())
        self.assertTrue(desk.paper().holds())
        self.assertEqual(desk.go_back(2)[:2], ("not good", "good"))
        self.assertEqual((desk.table, desk.marked), (table, (11, 11)))


if __name__ == "__main__":
    unittest.main()
