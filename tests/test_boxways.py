import unittest
from fractions import Fraction

from corehelpers import plain_ways, plain_weight
from helpers import Case, frac, num, tables_of_any_sign
from minusless.boxways import boxes_of, entry_of, touch, turned_way, ways_of, weight_of
from minusless.errors import BadBox, TooMany
from minusless.making import made
from minusless.tables import Table

CORES = tables_of_any_sign(120, seed=41)
EXAMPLE = Table.read("1/3 2\n1 3")
LONG = ((0, 1), (1, 1), (1, 0))
WRONG_FORMS = (None, 1, "ab", (), [], (LONG[0], LONG[1]), LONG + (LONG[0],), ((0,),), ((0, 1, 2),), (None,), ("01",),
               ((0, True),), ((False, 1),), ((0, 1.0),), ({0, 1},), [(0, 1), (1, 1), None], ((0, "1"),), 0, {0: (0, 1)})


def all_ways(core):
    for row in range(core.high):
        for column in range(core.wide):
            for turns, boxes in plain_ways(core, row, column):
                yield row, column, turns, boxes


class Ways(Case):
    def test_ways_in_order(self):
        for core in CORES:
            for row in range(core.high):
                for column in range(core.wide):
                    wanted = [turns for turns, _ in plain_ways(core, row, column)]
                    self.assertEqual(list(ways_of(core, row, column)), wanted)

    def test_example(self):
        self.assertEqual(list(ways_of(EXAMPLE, 0, 0)), [((0, 0),), LONG])
        self.assertEqual(list(ways_of(core=EXAMPLE, row=1, column=0)), [((1, 0),)])
        self.assertEqual(list(ways_of(Table.nought(2, 2), 0, 0)), [])

    def test_boxes_and_weights(self):
        for core in CORES:
            for _, _, turns, boxes in all_ways(core):
                self.assertEqual(boxes_of(core, turns), boxes)
                self.assertEqual(boxes_of(core, [list(turn) for turn in turns]), boxes)
                self.assertEqual(weight_of(core, turns), plain_weight(core, turns))
                self.assertEqual(weight_of(core, [list(turn) for turn in turns]), plain_weight(core, turns))

    def test_boxes_begin_and_end_at_the_edges(self):
        core = Table.read("0 1 0 0\n0 0 0 0\n0 0 0 0")
        self.assertEqual(boxes_of(core, [(0, 1)]), ((0, 3), (0, 2), (0, 1), (1, 1), (2, 1)))
        self.assertEqual(boxes_of(core=EXAMPLE, way=LONG), ((0, 1), (1, 1), (1, 0)))

    def test_entries_are_sums(self):
        for core in CORES:
            table = made(core)
            for row in range(core.high):
                for column in range(core.wide):
                    total = sum((frac(plain_weight(core, turns)) for turns, _ in plain_ways(core, row, column)),
                                Fraction(0))
                    self.assertEqual(entry_of(core, row, column), num(total))
                    self.assertEqual(table.entry(row, column), num(total))

    def test_bounds(self):
        full = Table([[(1, 1)] * 6] * 4)
        self.assertEqual(len(list(ways_of(full, 3, 0))), 1)
        more = Table([[(1, 1)] * 5] * 5)
        self.refuses(TooMany(24), lambda: list(ways_of(more, 4, 0)))
        less = more.raised(2, 2, (-1, 1))
        self.assertEqual(list(ways_of(less, 4, 0)), [((4, 0),)])
        self.assertEqual(entry_of(more, 0, 0), made(more).entry(0, 0))
        # Each way keeps to a few boxes, however large the core is.
        self.assertEqual(list(ways_of(Table.unit(12), 3, 3)), [((3, 3),)])

    def test_boxes_outside(self):
        for core in (EXAMPLE, Table([[(1, 1)] * 12] * 12)):
            for row, column in ((-1, 0), (0, -1), (12, 0), (0, 12), (True, 0), (0, None), ("0", 0)):
                self.refuses(BadBox(row, column), lambda: list(ways_of(core, row, column)))
                self.refuses(BadBox(row, column), entry_of, core, row, column)


class Turned(Case):
    def test_turned_ways(self):
        for core in CORES:
            turned = core.turned()
            for row in range(core.high):
                for column in range(core.wide):
                    ways = list(ways_of(core, row, column))
                    found = sorted(turned_way(way) for way in ways)
                    self.assertEqual(list(ways_of(turned, column, row)), found)
                    for way in ways:
                        self.assertEqual(weight_of(turned, turned_way(way)), weight_of(core, way))
                        self.assertEqual(turned_way(turned_way(way)), way)

    def test_turned_way(self):
        self.assertEqual(turned_way([[0, 1], (1, 1), [1, 0]]), ((0, 1), (1, 1), (1, 0)))
        self.assertEqual(turned_way(way=((5, -7),)), ((-7, 5),))
        self.assertEqual(turned_way([(0, 3), (2, 3), (2, 1)]), ((1, 2), (3, 2), (3, 0)))


class Touching(Case):
    def test_touch(self):
        for core in CORES[:60]:
            ways = [(turns, boxes) for _, _, turns, boxes in all_ways(core)][:25]
            for one, one_boxes in ways:
                self.assertIs(touch(core, one, [list(turn) for turn in one]), True)
                for other, other_boxes in ways:
                    self.assertIs(touch(core, one, other), bool(set(one_boxes) & set(other_boxes)))

    def test_in_empty_boxes(self):
        core = Table.read("0 1 0\n1 0 1\n0 0 1")
        self.assertIs(touch(core, [(0, 1)], [(1, 0)]), True)
        self.assertIs(touch(core=core, one=[(1, 2)], other=[(2, 2)]), True)
        self.assertIs(touch(Table.unit(2), [(0, 0)], [(1, 1)]), False)


class Refused(Case):
    def test_wrong_forms(self):
        for wrong in WRONG_FORMS:
            self.refuses(BadBox(-1, -1), weight_of, EXAMPLE, wrong)
            self.refuses(BadBox(-1, -1), boxes_of, EXAMPLE, wrong)
            self.refuses(BadBox(-1, -1), turned_way, wrong)
            self.refuses(BadBox(-1, -1), touch, EXAMPLE, wrong, [(9, 9)])
            self.refuses(BadBox(-1, -1), touch, EXAMPLE, LONG, wrong)

    def test_wrong_turns(self):
        core = Table.read("1 1 1\n1 0 1\n1 1 1")
        told = {
            ((3, 0),): (3, 0), ((0, 3),): (0, 3), ((-1, 0),): (-1, 0), ((0, -1),): (0, -1),
            ((1, 1),): (1, 1),
            ((0, 1), (1, 1), (1, 0)): (1, 1),
            ((0, 1), (0, 1), (0, 0)): (0, 1),
            ((2, 1), (0, 1), (0, 0)): (0, 1),
            ((0, 1), (2, 2), (2, 0)): (2, 2),
            ((0, 1), (2, 0), (2, 0)): (2, 0),
            ((0, 1), (2, 1), (2, 1)): (2, 1),
            ((0, 1), (2, 1), (2, 2)): (2, 2),
            ((0, 1), (2, 1), (1, 0)): (1, 0),
            ((0, 2), (1, 2), (1, 1)): (1, 1),
            ((0, 2), (1, 2), (2, 0)): (2, 0),
            ((0, 2), (2, 2), (2, 1), (1, 1), (9, 9)): (1, 1),
            ((1, 1), (9, 9), (9, 9)): (1, 1),
            ((0, 2), (1, 2), (1, -1)): (1, -1),
        }
        for way, (row, column) in told.items():
            for call in (weight_of, boxes_of):
                self.refuses(BadBox(row, column), call, core, way)
                self.refuses(BadBox(row, column), call, core, [list(turn) for turn in way])
            self.refuses(BadBox(row, column), touch, core, way, None)
            self.refuses(BadBox(row, column), touch, core, ((0, 0),), way)
        for way in (((0, 2), (1, 2), (1, 0)), ((0, 2), (2, 2), (2, 1)), ((2, 2),)):
            self.assertEqual(weight_of(core=core, way=way), (1, 1))


if __name__ == "__main__":
    unittest.main()
