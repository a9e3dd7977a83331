import random
import unittest
from itertools import combinations

from corehelpers import plain_companies, plain_ways
from helpers import Case, lot_pairs_of, table_of
from minusless.errors import BadBox
from minusless.greedy import company_in
from minusless.ladders import corner_sizes, hooks, is_ladder, ladder, ladder_of, ladder_size
from minusless.minors import rank_of
from minusless.stairs import Stair, read_stair
from stairhelpers import STAIRS, good_on, random_stairs


def rises(boxes):
    return all(one[0] < other[0] and one[1] < other[1] for one, other in zip(boxes, boxes[1:]))


def longest(boxes):
    """The greatest length of a ladder of some full boxes, by trying all choices."""
    return max((many for many in range(len(boxes) + 1)
                if any(rises(choice) for choice in combinations(sorted(boxes), many))), default=0)


class Sizes(Case):
    def test_against_all_choices(self):
        for stair in STAIRS[::2]:
            sizes = corner_sizes(stair)
            for row in range(stair.high):
                for column in range(stair.wide):
                    boxes = [box for box in stair.full_boxes() if box[0] >= row and box[1] >= column]
                    self.assertEqual(sizes[row][column], longest(boxes))
            self.assertEqual((len(sizes), {len(line) for line in sizes}), (stair.high, {stair.wide}))
            self.assertEqual(ladder_size(stair), sizes[0][0])

    def test_ranks(self):
        rng = random.Random(1)
        for stair in STAIRS[::3] + random_stairs(30):
            table = good_on(rng, stair)
            self.assertEqual(ladder_size(stair=stair), rank_of(table))
            for row, line in enumerate(corner_sizes(stair=stair)):
                self.assertEqual(line, tuple(rank_of(table.corner(row, column)) for column in range(table.wide)))

    def test_ladder(self):
        for stair in STAIRS + random_stairs(100) + [Stair.all_full(12, 12), Stair.all_full(12, 3)]:
            boxes = ladder(stair)
            self.assertEqual(len(boxes), ladder_size(stair))
            self.assertTrue(rises(boxes))
            self.assertTrue(all(stair.has(*box) for box in boxes))
        self.assertEqual(ladder(stair=Stair.all_empty(2, 3)), ())
        self.assertEqual(ladder_size(Stair.all_empty(2, 3)), 0)
        self.assertEqual(ladder_size(Stair.all_full(12, 7)), 7)


class IsLadder(Case):
    def test_against_the_words(self):
        rng = random.Random(2)
        held = {True: 0, False: 0}
        for stair in STAIRS[::3]:
            inside = [(row, column) for row in range(stair.high) for column in range(stair.wide)]
            for _ in range(20):
                boxes = rng.sample(inside, rng.randint(0, min(3, len(inside))))
                if rng.random() < 0.7:
                    boxes.sort()
                wanted = rises(boxes) and all(stair.has(*box) for box in boxes)
                self.assertIs(is_ladder(stair, [list(box) for box in boxes]), wanted)
                self.assertIs(is_ladder(stair, tuple(boxes)), wanted)
                if boxes:
                    held[wanted] += 1
        self.assertGreater(min(held.values()), 300)

    def test_boxes_of_a_wrong_form(self):
        stair = Stair.all_full(3, 3)
        for wrong in (None, 1, "01", (), (0,), (0, 1, 2), (True, 1), (0, False), (0, None), ("0", 1), (0.0, 1), {0: 1}):
            self.assertIs(is_ladder(stair, [wrong]), False)
            self.assertIs(is_ladder(stair, [(0, 0), wrong]), False)
        for outside in ((-1, 0), (0, -1), (3, 3), (0, 3), (3, 0), (-2, -2)):
            self.assertIs(is_ladder(stair, [outside]), False)
        self.assertIs(is_ladder(stair=stair, boxes=()), True)
        self.assertIs(is_ladder(stair, [(0, 0), [1, 1], (2, 2)]), True)
        for wrong in ([(0, 0), (0, 1)], [(0, 0), (1, 0)], [(1, 1), (0, 0)], [(1, 1), (1, 1)], [(0, 1), (1, 0)]):
            self.assertIs(is_ladder(stair, wrong), False)


class Hooks(Case):
    def test_hooks_are_a_company(self):
        for stair in STAIRS[::2]:
            core = table_of(stair.rows)
            for many in range(0, 4):
                for boxes in combinations(stair.full_boxes(), many):
                    if not rises(boxes):
                        continue
                    found = hooks(stair, [list(box) for box in boxes])
                    self.assertEqual(found, tuple((box,) for box in boxes))
                    rows, columns = [row for row, _ in boxes], [column for _, column in boxes]
                    self.assertIn(found, plain_companies(core, rows, columns))
                    self.assertEqual(ladder_of(found), boxes)

    def test_errors(self):
        stair = read_stair(".##\n###")
        for wrong in (None, 1, "01", (), (0,), (0, 1, 2), (True, 1), (0, None), {0: 1, 1: 1}):
            self.refuses(BadBox(-1, -1), hooks, stair, [wrong])
            self.refuses(BadBox(-1, -1), hooks, stair, [(0, 1), wrong, (9, 9)])
        for wrong in ((-1, 0), (0, -1), (2, 0), (0, 3), (0, 0)):
            self.refuses(BadBox(*wrong), hooks, stair, [wrong, None])
            self.refuses(BadBox(*wrong), hooks, stair, [list(wrong)])
        self.refuses(BadBox(0, 2), hooks, stair, [(0, 1), (0, 2)])
        self.refuses(BadBox(1, 1), hooks, stair, [(0, 1), (1, 1)])
        self.refuses(BadBox(1, 0), hooks, stair, [(0, 1), (1, 0), (0, 0)])
        self.refuses(BadBox(0, 1), hooks, stair, [(1, 2), (0, 1)])
        self.assertEqual(hooks(stair=stair, boxes=[]), ())
        self.assertEqual(hooks(stair, ((0, 1), [1, 2])), (((0, 1),), ((1, 2),)))


class LaddersOf(Case):
    def plain(self, company):
        """The ladder, in the words of the document."""
        found = []
        for way in company[::-1]:
            down = way[::2]
            box = way[0] if not found else [turn for turn in down if turn[0] < found[0][0]][-1]
            found.insert(0, box)
        return tuple(found)

    def test_companies_of_a_stair(self):
        more = 0
        for stair in STAIRS[::4]:
            core = table_of(stair.rows)
            for rows, columns in lot_pairs_of(stair.high, stair.wide):
                for company in plain_companies(core, rows, columns):
                    boxes = ladder_of([[list(turn) for turn in way] for way in company])
                    self.assertEqual(boxes, self.plain(company))
                    self.assertEqual(ladder_of(company), boxes)
                    self.assertEqual(len(boxes), len(company))
                    self.assertTrue(is_ladder(stair, boxes))
                    more += boxes != tuple(way[0] for way in company)
        self.assertGreater(more, 20)

    def test_furthest_companies(self):
        for stair in random_stairs(40, 5, seed=3):
            for rows, columns in lot_pairs_of(stair.high, stair.wide)[::5]:
                company = company_in(stair, rows, columns)
                if company is not None:
                    self.assertTrue(is_ladder(stair, ladder_of(company)))

    def test_no_way_and_one(self):
        self.assertEqual(ladder_of(ways=[]), ())
        self.assertEqual(ladder_of(()), ())
        for way, _ in plain_ways(table_of([[1, 1], [1, 1]]), 0, 0):
            self.assertEqual(ladder_of([way]), (way[0],))


if __name__ == "__main__":
    unittest.main()
