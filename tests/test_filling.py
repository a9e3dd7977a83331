import unittest

from helpers import WRONG_INTEGERS, Case, plain_stair
from minusless.errors import BadWant
from minusless.filling import emptiable_boxes, fillable_boxes, lacking_one
from minusless.stairs import Stair
from stairhelpers import STAIRS, STAIRS_OF, random_stairs, tree_order_of

SOME = STAIRS + random_stairs(60, 6, seed=7)


def changed(stair, box):
    rows = [list(row) for row in stair.rows]
    rows[box[0]][box[1]] = 1 - rows[box[0]][box[1]]
    return rows


class Boxes(Case):
    def test_against_trying_each_box(self):
        for stair in SOME:
            boxes = [box for box in tree_order_of(stair.high, stair.wide)[::-1] if plain_stair(changed(stair, box))]
            self.assertEqual(fillable_boxes(stair), tuple(box for box in boxes if not stair.has(*box)))
            self.assertEqual(emptiable_boxes(stair), tuple(box for box in boxes if stair.has(*box)))
        self.assertEqual(fillable_boxes(stair=Stair.all_full(2, 2)), ())
        self.assertEqual(emptiable_boxes(stair=Stair.all_empty(2, 2)), ())

    def test_the_box_of_row_and_column_nought(self):
        for stair in SOME:
            self.assertIn((0, 0), fillable_boxes(stair) + emptiable_boxes(stair))

    def test_filling_in_the_order_of_the_tree(self):
        for stair in SOME:
            for box in tree_order_of(stair.high, stair.wide):
                if not stair.has(*box):
                    self.assertIn(box, fillable_boxes(stair))
                    stair = stair.with_box(*box)
            self.assertEqual(stair, Stair.all_full(stair.high, stair.wide))

    def test_emptying_in_reading_order(self):
        for stair in SOME:
            for box in tree_order_of(stair.high, stair.wide)[::-1]:
                if stair.has(*box):
                    self.assertIn(box, emptiable_boxes(stair))
                    stair = stair.without_box(*box)
            self.assertEqual(stair, Stair.all_empty(stair.high, stair.wide))


class LackingOne(Case):
    def test_against_all_stairs(self):
        for (high, wide), stairs in STAIRS_OF.items():
            wanted = [stair for stair in stairs if stair.many == high * wide - 1]
            wanted.sort(key=lambda stair: stair.empty_boxes())
            found = lacking_one(high, wide)
            self.assertIsInstance(found, tuple)
            self.assertEqual(list(found), wanted)
            self.assertEqual(len(found), high + wide - 1)
            self.assertTrue(all(0 in stair.empty_boxes()[0] for stair in found))

    def test_twelve(self):
        found = lacking_one(high=12, wide=12)
        boxes = [stair.empty_boxes()[0] for stair in found]
        self.assertEqual(boxes, [(0, column) for column in range(12)] + [(row, 0) for row in range(1, 12)])

    def test_refused(self):
        for wrong in WRONG_INTEGERS + (0, 13):
            self.refuses(BadWant("high"), lacking_one, wrong, wrong)
            self.refuses(BadWant("wide"), lacking_one, 12, wrong)


if __name__ == "__main__":
    unittest.main()
