import random
import unittest
from itertools import combinations

from corehelpers import plain_companies, plain_ways, runs
from helpers import Case, lot_pairs_of, table_of
from minusless.boxways import boxes_of
from minusless.errors import BadBox, BadLot, OtherSize
from minusless.greedy import company_in, furthest_way
from minusless.stairs import Stair, read_stair
from stairhelpers import BOXES_OUTSIDE, STAIRS, random_stairs


def core_of(stair):
    return table_of(stair.rows)


CORES = {stair.rows: core_of(stair) for stair in STAIRS}


def plain_furthest(stair, row, column, taken):
    """The furthest way, in the words of the document: at each full box it is asked whether some way goes on so."""
    ways = [list(zip(boxes, boxes[1:] + ((stair.high, column),)))
            for _, boxes in plain_ways(core_of(stair), row, column) if not set(boxes) & taken]
    if not ways:
        return None
    at, turns, heading = (row, stair.wide - 1), (), "left"
    while at[0] < stair.high:
        left, down = (at[0], at[1] - 1), (at[0] + 1, at[1])
        # The ways that have run so far as this one has and go on down.
        falling = [way for way in ways if (at, down) in way]
        if heading == "left":
            falls = stair.has(*at) and bool(falling)
        else:
            falls = bool(falling)
        if falls != (heading == "down"):
            turns += (at,)
            heading = "down" if falls else "left"
        step = (at, down if falls else left)
        ways = [way for way in ways if step in way]
        at = step[1]
    return turns


def leaving_columns(stair, way):
    """For each row of the way from its first on the column in which it leaves the row downwards."""
    boxes = boxes_of(core_of(stair), way)
    return {row: min(column for at, column in boxes if at == row) for row in range(boxes[0][0], stair.high)}


class FurthestWays(Case):
    def test_against_all_ways(self):
        none = 0
        for stair in STAIRS:
            for row in range(stair.high):
                for column in range(stair.wide):
                    wanted = plain_furthest(stair, row, column, set())
                    self.assertEqual(furthest_way(stair, row, column), wanted)
                    none += wanted is None
        self.assertGreater(none, 300)

    def test_beside_ways_sent(self):
        rng = random.Random(1)
        beside = none = 0
        for stair in STAIRS[::2] + random_stairs(60, 4, seed=2):
            core = core_of(stair)
            ways = [turns for row in range(stair.high) for _, turns, _ in runs(core, row) if turns]
            for _ in range(6):
                row, column = rng.randrange(stair.high), rng.randrange(stair.wide)
                # Those that begin below the row and leave right of the column block less.
                far = [way for way in ways if way[0][0] > row and way[-1][1] > column]
                chosen_from = far if far and rng.random() < 0.7 else ways
                sent = rng.sample(chosen_from, min(len(chosen_from), rng.randint(1, 2)))
                taken = {box for way in sent for box in boxes_of(core, way)}
                wanted = plain_furthest(stair, row, column, taken)
                self.assertEqual(furthest_way(stair, row, column, [list(map(list, way)) for way in sent]), wanted)
                beside += wanted is not None and bool(sent)
                none += wanted is None and plain_furthest(stair, row, column, set()) is not None
        self.assertGreater(beside, 100)
        self.assertGreater(none, 100)

    def test_example(self):
        full = Stair.all_full(2, 3)
        self.assertEqual(furthest_way(full, 0, 0), ((0, 2), (1, 2), (1, 0)))
        self.assertEqual(furthest_way(stair=full, row=0, column=0, sent=(((1, 2),),)), ((0, 1), (1, 1), (1, 0)))
        self.assertEqual(furthest_way(full, 0, 1, [((1, 2),)]), ((0, 1),))
        self.assertIsNone(furthest_way(full, 0, 2, [((1, 2),)]))
        self.assertIsNone(furthest_way(full, 1, 0, [((1, 2),)]))
        self.assertIsNone(furthest_way(Stair.all_empty(2, 2), 0, 0))

    def test_wrong_boxes(self):
        for row, column in BOXES_OUTSIDE + ((2, 0), (0, 3)):
            self.refuses(BadBox(row, column), furthest_way, Stair.all_full(2, 3), row, column, [None])

    def test_ways_sent_that_are_none(self):
        stair = read_stair(".#\n##")
        good = ((1, 1),)
        for sent, error in (([None], BadBox(-1, -1)), ([good, ()], BadBox(-1, -1)), ([((1, 1), (1, 0))], BadBox(-1, -1)),
                            ([((0, 0),)], BadBox(0, 0)), ([good, ((2, 0),), ((0, 0),)], BadBox(2, 0)),
                            ([((0, 1), (1, 1), (1, 1))], BadBox(1, 1)), ([((0, 1), (0, 1), (0, 1))], BadBox(0, 1)),
                            ([((1, True),)], BadBox(-1, -1)), ([((0, 0),), None], BadBox(0, 0))):
            self.refuses(error, furthest_way, stair, 1, 0, sent)
            self.refuses(error, furthest_way, stair, 1, 0, tuple(sent))

    def test_twelve(self):
        full = Stair.all_full(12, 12)
        way = furthest_way(full, 0, 0)
        self.assertEqual(way, ((0, 11), (11, 11), (11, 0)))
        self.assertEqual(furthest_way(full, 0, 11), ((0, 11),))


class Companies(Case):
    def test_against_all_companies(self):
        found_some = none = 0
        for stair in STAIRS[::2]:
            core = CORES[stair.rows]
            for rows, columns in lot_pairs_of(stair.high, stair.wide):
                companies = plain_companies(core, rows, columns)
                found = company_in(stair, list(rows), list(columns))
                self.assertEqual(found is None, not companies)
                if found is None:
                    none += 1
                    continue
                found_some += 1
                self.assertIn(found, companies)
                self.check_furthest(stair, found, companies)
        self.assertGreater(min(found_some, none), 500)

    def check_furthest(self, stair, found, companies):
        for company in companies:
            for way, furthest in zip(company, found):
                columns, most = leaving_columns(stair, way), leaving_columns(stair, furthest)
                self.assertEqual(list(columns), list(most))
                self.assertTrue(all(columns[row] <= most[row] for row in columns))

    def test_from_the_last_pair_to_the_first(self):
        for stair in STAIRS[::5] + random_stairs(30, 4, seed=3):
            for rows, columns in lot_pairs_of(stair.high, stair.wide):
                company, taken = (), set()
                for row, column in list(zip(rows, columns))[::-1]:
                    way = plain_furthest(stair, row, column, taken)
                    if way is None:
                        company = None
                        break
                    company = (way,) + company
                    taken |= set(boxes_of(core_of(stair), way))
                self.assertEqual(company_in(stair, rows, columns), company)

    def test_empty_lots(self):
        for stair in (Stair.all_full(2, 3), Stair.all_empty(1, 1)):
            self.assertEqual(company_in(stair, [], ()), ())

    def test_diagonals(self):
        stair = read_stair("#.\n.#")
        self.assertEqual(company_in(stair=stair, rows=(0, 1), columns=[0, 1]), (((0, 0),), ((1, 1),)))
        self.assertIsNone(company_in(stair, [0], [1]))

    def test_twelve(self):
        full = Stair.all_full(12, 12)
        company = company_in(full, range_of(12), range_of(12))
        self.assertEqual(company, tuple(((at, at),) for at in range(12)))
        ways = [set(boxes_of(core_of(full), way)) for way in company_in(full, (0, 1, 5), (2, 3, 11))]
        self.assertFalse(any(one & other for one, other in combinations(ways, 2)))

    def test_errors_in_order(self):
        stair = Stair.all_full(2, 3)
        for wrong in (None, 1, "0"):
            self.refuses(BadLot(-1), company_in, stair, wrong, [9])
            self.refuses(BadLot(-1), company_in, stair, [], wrong)
        self.refuses(BadLot(1), company_in, stair, [0, 2], [9])
        self.refuses(BadLot(0), company_in, stair, [], [3])
        self.refuses(BadLot(1), company_in, stair, [], [2, 1])
        self.refuses(OtherSize(2, 1), company_in, stair, [0, 1], [0])


def range_of(size):
    return list(range(size))


if __name__ == "__main__":
    unittest.main()
