import random
import unittest
from itertools import product

from helpers import (WRONG_INTEGERS, Case, good_tables, lot_pairs_of, num, plain_good, plain_minor, plain_stair,
                     random_table, table_of, tables_of_any_sign)
from minusless.asking import Asker, asked_through, roads_to, tree_signs
from minusless.errors import BadNumber, BadWant, Ended, NoStep
from minusless.mainrule import is_good, stair_of
from minusless.meanings import is_good_plainly
from minusless.minors import minor
from minusless.roadminors import road_minors
from minusless.stairs import Stair, pattern_of
from minusless.tables import Table
from minusless.unmaking import unmade
from stairhelpers import STAIRS, STAIRS_OF, PlainTree, good_tables_on, plain_tree, random_stairs, tree_order_of

ONE, MINUS = (1, 1), (-1, 1)
SMALL = [table_of([four[:2], four[2:]]) for four in product((-1, 0, 1), repeat=4)]
RNG = random.Random(1)
FROM_NOUGHT = [random_table(RNG, RNG.randint(1, 4), RNG.randint(1, 4), low=0, noughts=RNG.choice((0.2, 0.5, 0.7)))
               for _ in range(150)]
# A good table with one entry changed is often hardly not good, so the tree asks far before it ends.
CHANGED = [table.raised(RNG.randrange(table.high), RNG.randrange(table.wide), num(RNG.choice((-1, 1))))
           for table in good_tables_on(random_stairs(120, 4, seed=2), seed=3)]
TABLES = (SMALL + good_tables(60, seed=4) + good_tables_on(STAIRS[::4]) + FROM_NOUGHT + CHANGED
          + tables_of_any_sign(80, seed=5))


def state(asker):
    return (asker.high, asker.wide, asker.answers, asker.asked, asker.end, asker.found, asker.paper_rows,
            asker.paper_columns, bool(asker), len(asker))


def answered(table, asker):
    """The asker with all its questions answered by the table, and the states before each answer."""
    states = []
    while asker:
        states.append(state(asker))
        asker(minor(table, *asker.question()))
    return states


class Trees(Case):
    def test_against_the_words(self):
        ends = {"below": 0, "column": 0, "good": 0}
        for table in TABLES:
            tree = plain_tree(table)
            asker = Asker(table.high, table.wide)
            for number, boxes in zip(range(len(tree.answers)), tree_order_of(table.high, table.wide)):
                self.assertIs(bool(asker), True)
                self.assertIsNone(asker.end)
                self.assertEqual((len(asker), asker.asked), (number, number))
                self.assertEqual(asker.found, tree.states[number])
                self.assertEqual(asker.answers, tuple(tree.answers[:number]))
                self.assertEqual(asker.box(), boxes)
                self.assertEqual(asker.question(), tree.questions[number])
                self.assertEqual((asker.paper_rows, asker.paper_columns), ((), ()))
                self.assertIsNone(asker(tree.answers[number]))
            self.check_end(asker, tree)
            self.assertEqual(state(asked_through(table)), state(asker))
            ends[tree.end] += 1
        self.assertGreater(min(ends.values()), 30)

    def check_end(self, asker, tree):
        self.assertEqual(asker.end, tree.end)
        self.assertEqual((asker.paper_rows, asker.paper_columns), tree.paper)
        self.assertEqual(asker.found, tuple(map(tuple, tree.found)))
        self.assertEqual(asker.answers, tuple(tree.answers))
        self.assertEqual((asker.asked, len(asker), bool(asker)), (len(tree.answers), len(tree.answers), False))

    def test_good_exactly_if_the_table_is(self):
        for table in TABLES:
            asker = asked_through(table=table)
            good = plain_good(table)
            self.assertEqual(asker.end == "good", good)
            if good:
                self.assertEqual(asker.asked, table.high * table.wide)
                self.assertEqual(asker.found, pattern_of(unmade(table)))
                self.assertEqual(asker.stair(), stair_of(table))
            else:
                self.assertLessEqual(asker.asked, table.high * table.wide)
                self.assertLess(plain_minor(table, asker.paper_rows, asker.paper_columns)[0], 0)
                self.refuses(Ended(), asker.stair)

    def test_greatest_row_and_nearest_box(self):
        # Both rows below have column 3 empty behind a full box; the lower one counts, and its box nearest to it.
        asker = roads_to(3, 4, [0, 0, 1, 0, 0, 0, 1, 0, 1])
        self.assertEqual((asker.end, asker.found), ("column", ((0, 0, 0, 1), (0, 1, 0, 0), (0, 1, 0, 0))))
        self.assertEqual((asker.paper_rows, asker.paper_columns), ((0, 2), (1, 3)))
        asker = roads_to(3, 4, [0, 1, 1, 1, 1])
        self.assertEqual((asker.asked, asker.end), (5, "column"))
        self.assertEqual((asker.paper_rows, asker.paper_columns), ((1, 2), (2, 3)))

    def test_the_paper_goes_on_along_the_road(self):
        asker = asked_through(Table.read("1 1 0\n1 1 1\n0 1 1"))
        self.assertEqual((asker.paper_rows, asker.paper_columns), ((0, 1, 2), (0, 1, 2)))
        asker = asked_through(Table.read("1 2\n3 4"))
        self.assertEqual((asker.end, asker.asked), ("below", 4))
        self.assertEqual((asker.paper_rows, asker.paper_columns), ((0, 1), (0, 1)))

    def test_twelve(self):
        self.assertEqual(asked_through(Table.unit(12)).end, "good")
        asker = asked_through(Table.unit(12).raised(0, 11, ONE).raised(11, 0, ONE))
        self.assertNotEqual(asker.end, "good")
        self.assertLess(minor(Table.unit(12).raised(0, 11, ONE).raised(11, 0, ONE), asker.paper_rows,
                              asker.paper_columns)[0], 0)

    def test_no_fixed_list_does(self):
        table = Table.read("0 0 1\n0 0 0\n1 0 0")
        minors = road_minors(table, Stair.all_full(3, 3))
        self.assertEqual(len([number for row in minors for number in row]), 9)
        self.assertTrue(all(top >= 0 for row in minors for top, _ in row))
        self.assertFalse(is_good_plainly(table))
        self.assertFalse(is_good(table))


class Walks(Case):
    def test_answered_by_numbers_alone(self):
        rng = random.Random(6)
        for _ in range(200):
            high, wide = rng.randint(1, 4), rng.randint(1, 4)
            answers = [num(rng.choice((0, 0, 1, 1, 2, -1))) for _ in range(high * wide)]
            tree = PlainTree(high, wide, lambda number, *_: answers[number])
            asker = Asker(high=high, wide=wide)
            for answer in tree.answers:
                asker(number=answer)
            self.assertEqual((asker.end, asker.answers), (tree.end, tuple(tree.answers)))
            self.assertEqual((asker.paper_rows, asker.paper_columns), tree.paper)

    def test_which_rows_of_answers_end_good(self):
        for high, wide in ((1, 1), (1, 2), (2, 1), (2, 2), (1, 4), (2, 3), (3, 2)):
            many = 0
            for signs in product((-1, 0, 1), repeat=high * wide):
                rows = [signs[::-1][row * wide:row * wide + wide] for row in range(high)]
                wanted = -1 not in signs and plain_stair(rows)
                try:
                    found = roads_to(high, wide, signs).end == "good"
                except BadWant:
                    found = False
                self.assertEqual(found, wanted)
                many += wanted
            self.assertEqual(many, len(STAIRS_OF.get((high, wide), [])) or 2 ** (high * wide))

    def test_at_the_beginning(self):
        asker = Asker(2, 3)
        self.assertEqual(state(asker), (2, 3, (), 0, None, ((0, 0, 0), (0, 0, 0)), (), (), True, 0))
        self.assertEqual((asker.box(), asker.question()), ((1, 2), ((1,), (2,))))
        self.refuses(Ended(), asker.stair)
        self.refuses(NoStep(), asker.back)

    def test_while_a_question_is_open(self):
        asker = roads_to(2, 2, [1, 1])
        self.assertEqual((asker.box(), asker.question()), ((0, 1), ((0,), (1,))))
        self.refuses(Ended(), asker.stair)
        for wrong in WRONG_INTEGERS + ((2, 4), [1, 1], (1.0, 1)):
            before = state(asker)
            self.refuses(BadNumber(-1), asker, wrong)
            self.assertEqual(state(asker), before)
        asker(ONE)
        self.assertEqual(asker.question(), ((0, 1), (0, 1)))

    def test_behind_each_end(self):
        for signs, end in (([1, -1], "below"), ([0, 1, 1], "column"), ([1, 1, 1, 0], "good")):
            asker = roads_to(2, 2, signs)
            before = state(asker)
            self.assertEqual((asker.end, asker.asked, len(asker)), (end, len(signs), len(signs)))
            self.assertIs(bool(asker), False)
            for call in (asker.question, asker.box):
                self.refuses(Ended(), call)
            self.refuses(Ended(), asker, ONE)
            # A wrong number is told ahead of the end.
            self.refuses(BadNumber(-1), asker, None)
            if end == "good":
                self.assertEqual(asker.stair(), Stair([[0, 1], [1, 1]]))
            else:
                self.refuses(Ended(), asker.stair)
            self.assertEqual(state(asker), before)

    def test_back(self):
        for table in TABLES[::2]:
            asker = Asker(table.high, table.wide)
            states = answered(table, asker)
            end = state(asker)
            for before in states[::-1]:
                self.assertIsNone(asker.back())
                self.assertEqual(state(asker), before)
            self.refuses(NoStep(), asker.back)
            self.assertEqual(answered(table, asker), states)
            self.assertEqual(state(asker), end)

    def test_back_and_another_answer(self):
        for signs, other in (([1, -1], 0), ([0, 1, 1], 0), ([1, 1, 1, 0], -1)):
            asker = roads_to(2, 2, signs)
            asker.back()
            self.assertIs(bool(asker), True)
            asker(num(other))
            self.assertEqual(state(asker), state(roads_to(2, 2, signs[:-1] + [other])))

    def test_askers_are_apart(self):
        one, other = Asker(2, 2), Asker(2, 2)
        one(ONE)
        self.assertEqual((one.asked, other.asked, other.found), (1, 0, ((0, 0), (0, 0))))

    def test_wrong_sizes(self):
        for wrong in WRONG_INTEGERS + (0, 13):
            self.refuses(BadWant("high"), Asker, wrong, wrong)
            self.refuses(BadWant("wide"), Asker, 12, wrong)
        self.assertEqual(Asker(12, 1).box(), (11, 0))


class Signs(Case):
    def test_tree_signs(self):
        for stair in STAIRS:
            wanted = tuple(int(stair.has(*box)) for box in tree_order_of(stair.high, stair.wide))
            self.assertEqual(tree_signs(stair), wanted)
            asker = roads_to(stair.high, stair.wide, wanted)
            self.assertEqual((asker.end, asker.stair()), ("good", stair))
        self.assertEqual(tree_signs(stair=Stair([[0, 1], [1, 1]])), (1, 1, 1, 0))

    def test_short_and_empty(self):
        self.assertEqual(state(roads_to(2, 2, ())), state(Asker(2, 2)))
        asker = roads_to(high=2, wide=2, signs=[1, 0])
        self.assertEqual((asker.answers, asker.end, asker.box()), ((ONE, (0, 1)), None, (0, 1)))
        self.assertEqual(roads_to(2, 2, (1, -1)).answers, (ONE, MINUS))

    def test_a_sign_too_many(self):
        for signs in ([1, -1, 0], [0, 1, 1, 0], [1, 1, 1, 1, 0]):
            self.refuses(BadWant("signs"), roads_to, 2, 2, signs)
            self.refuses(BadWant("signs"), roads_to, 2, 2, tuple(signs))
            self.assertIsNotNone(roads_to(2, 2, signs[:-1]).end)

    def test_signs_of_a_wrong_form(self):
        for wrong in (None, 1, "101", {1: 1}, [2], [-2], [True], [False], [None], [1.0], ["1"], [ONE], [1, 0, 5]):
            self.refuses(BadWant("signs"), roads_to, 2, 2, wrong)
        for wrong in WRONG_INTEGERS + (0, 13):
            self.refuses(BadWant("high"), roads_to, wrong, wrong, None)
            self.refuses(BadWant("wide"), roads_to, 12, wrong, None)


class Papers(Case):
    def test_only_bad_minors_are_told(self):
        for table in SMALL:
            asker = asked_through(table)
            bad = [lots for lots in lot_pairs_of(2, 2) if plain_minor(table, *lots)[0] < 0]
            if bad:
                self.assertIn((asker.paper_rows, asker.paper_columns), bad)
            else:
                self.assertEqual((asker.paper_rows, asker.paper_columns), ((), ()))


if __name__ == "__main__":
    unittest.main()
