import unittest

from helpers import Case, all_patterns, plain_stair, sizes
from minusless.errors import BadBox, BadTable, TooMany
from minusless.roads import next_box, pattern_rows, road, road_ends, road_lots, roads
from minusless.stairs import Stair

PATTERNS = [rows for high, wide in sizes(3) for rows in all_patterns(high, wide)]
EXAMPLE = [[0, 1, 1], [1, 0, 1], [1, 1, 1]]


def plain_road(rows, row, column):
    """A road, in the words of the document."""
    found = [(row, column)]
    now = column
    for below in range(row + 1, len(rows)):
        if rows[below][now]:
            right = [place for place in range(now + 1, len(rows[0])) if rows[below][place]]
            if right:
                now = right[0]
                found.append((below, now))
    return tuple(found)


def tree_order(rows):
    return [(row, column) for row in range(len(rows) - 1, -1, -1) for column in range(len(rows[0]) - 1, -1, -1)]


class Roads(Case):
    def test_against_the_words(self):
        for rows in PATTERNS:
            lists = [list(row) for row in rows]
            told = []
            for row, column in tree_order(rows):
                wanted = plain_road(rows, row, column)
                told.append(((row, column), wanted))
                self.assertEqual(road(lists, row, column), wanted)
                self.assertEqual(next_box(rows, row, column), wanted[1] if len(wanted) > 1 else None)
                self.assertEqual(road_lots(lists, row, column), tuple(zip(*wanted)))
            self.assertEqual(list(roads(rows)), told)
            ends = tuple(sorted(box for box, boxes in told if len(boxes) == 1))
            self.assertEqual(road_ends(lists), ends)

    def test_the_rest_is_the_road_of_the_next(self):
        for rows in PATTERNS:
            for box, boxes in roads(rows):
                if len(boxes) > 1:
                    self.assertEqual(road(rows, *boxes[1]), boxes[1:])
                for row, column in boxes[1:]:
                    self.assertEqual(rows[row][column], 1)

    def test_example(self):
        self.assertEqual((road(EXAMPLE, 0, 0), road(EXAMPLE, 0, 1), next_box(EXAMPLE, 1, 2)),
                         (((0, 0), (1, 2)), ((0, 1), (2, 2)), None))
        self.assertEqual(road(pattern=EXAMPLE, row=2, column=0), ((2, 0),))

    def test_a_road_goes_over_rows(self):
        rows = [[1, 0, 0], [0, 1, 1], [1, 0, 1], [1, 1, 1]]
        self.assertEqual(road(rows, 0, 0), ((0, 0), (2, 2)))

    def test_stairs_and_rows_alike(self):
        for rows in PATTERNS:
            self.assertEqual(pattern_rows([list(row) for row in rows]), rows)
            if plain_stair(rows):
                stair = Stair(rows)
                self.assertEqual(pattern_rows(stair), rows)
                self.assertEqual(list(roads(stair)), list(roads(rows)))
                self.assertEqual(road_ends(stair), road_ends(rows))
                self.assertEqual(road(stair, 0, 0), road(rows, 0, 0))
                self.assertEqual(next_box(stair, 0, 0), next_box(rows, 0, 0))
                self.assertEqual(road_lots(stair, 0, 0), road_lots(rows, 0, 0))


class Refused(Case):
    def test_wrong_patterns(self):
        calls = [pattern_rows, lambda rows: list(roads(rows)), road_ends]
        calls += [lambda rows, call=call: call(rows, -1, True) for call in (road, next_box, road_lots)]
        for call in calls:
            for wrong in (None, 1, "01", [], ()):
                self.refuses(BadTable(-1), call, wrong)
            self.refuses(BadTable(0), call, [[], [1]])
            self.refuses(BadTable(1), call, [[1, 2], [1]])
            self.refuses(TooMany(12), call, [[2] * 13])
            self.refuses(BadTable(1), call, [[1, 0], [1, True]])
            self.refuses(BadTable(0), call, [[1, 2], [1, 2]])

    def test_boxes_outside(self):
        for pattern in (EXAMPLE, Stair.all_full(3, 3)):
            for call in (road, next_box, road_lots):
                for row, column in ((-1, 0), (0, -1), (3, 0), (0, 3), (True, 0), (0, False), (None, 0), (0, "1")):
                    self.refuses(BadBox(row, column), call, pattern, row, column)


if __name__ == "__main__":
    unittest.main()
