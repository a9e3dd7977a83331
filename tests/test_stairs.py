import unittest

from helpers import WRONG_INTEGERS, Case, all_patterns, plain_stair, sizes, tables_of_any_sign
from minusless.errors import BadBox, BadStair, BadTable, BadText, BadWant, OtherSize, TooMany
from minusless.stairs import Stair, pattern_of, read_stair
from minusless.tables import Table

STAIRS = [Stair(rows) for high, wide in sizes(3) for rows in all_patterns(high, wide) if plain_stair(rows)]
EXAMPLE = Stair([[0, 1, 1], [0, 1, 1], [1, 1, 1]])


def boxes_of_size(stair):
    return [(row, column) for row in range(stair.high) for column in range(stair.wide)]


class Patterns(Case):
    def test_pattern_of(self):
        for table in tables_of_any_sign(40):
            wanted = tuple(tuple(int(number != (0, 1)) for number in row) for row in table.rows)
            self.assertEqual(pattern_of(table), wanted)
        found = pattern_of(Table.read("0 -1/2"))
        self.assertEqual(found, ((0, 1),))
        self.assertEqual([type(box) for box in found[0]], [int, int])

    def test_which_patterns_are_stairs(self):
        many = {}
        for high, wide in sizes(3):
            for rows in all_patterns(high, wide):
                stair = plain_stair(rows)
                self.assertIs(Stair.is_stair(rows), stair)
                self.assertIs(Stair.is_stair([list(row) for row in rows]), stair)
                if stair:
                    self.assertEqual(Stair(rows).rows, rows)
                    many[high, wide] = many.get((high, wide), 0) + 1
                else:
                    row, column = self.first_fault(rows)
                    self.refuses(BadStair(row, column), Stair, [list(row) for row in rows])
        # For two rows there are 2 * 3 ** n - 2 ** n stairs.
        self.assertEqual([many[2, wide] for wide in (1, 2, 3)], [4, 14, 46])
        self.assertEqual(many[3, 3], 230)

    def first_fault(self, rows):
        for row, line in enumerate(rows):
            for column, box in enumerate(line):
                if not box and any(line[:column]) and any(above[column] for above in rows[:row]):
                    return row, column

    def test_errors_of_a_pattern(self):
        for action in (Stair, Stair.is_stair):
            for wrong in (None, 1, "01", (), [], {0: [1]}, EXAMPLE, Table.unit(1)):
                self.refuses(BadTable(-1), action, wrong)
            for row in (None, 1, "01", [], [1], [1, 1, 1], {0, 1}):
                self.refuses(BadTable(1), action, [[0, 2], row])
            for row in (None, [], (), 1):
                self.refuses(BadTable(0), action, [row, [1]])
            self.refuses(TooMany(12), action, [[2] * 13])
            self.refuses(TooMany(12), action, [[2]] * 13)
            self.refuses(BadTable(13), action, [[1]] * 13 + [[]])
            for box in (2, -1, True, False, None, "1", 1.0, (1, 1)):
                self.refuses(BadTable(1), action, [[0, 1], [1, box], [box, 1]])
                self.refuses(BadTable(2), action, [[0, 1, 1], [1, 0, 0], [1, box, 1]])
            # The form of every row is looked at before the boxes of any one.
            self.refuses(BadTable(2), action, [[0, 2], [1, 0], [1]])
        self.refuses(BadTable(2), Stair, [[0, 1], [1, 0], [5, 1]])

    def test_twelve(self):
        self.assertEqual(Stair([[1] * 12] * 12).many, 144)
        self.assertEqual(Stair([[0]] * 12).high, 12)

    def test_later_changes_have_no_effect(self):
        rows = [[0, 1], [1, 1]]
        stair = Stair(rows=rows)
        rows[0][0] = 1
        rows.append([1, 1])
        self.assertEqual(stair.rows, ((0, 1), (1, 1)))


class Makers(Case):
    def test_all_full_and_all_empty(self):
        self.assertEqual(Stair.all_full(2, 3).rows, ((1, 1, 1), (1, 1, 1)))
        self.assertEqual(Stair.all_empty(high=3, wide=1).rows, ((0,), (0,), (0,)))
        self.assertEqual(Stair.all_full(12, 12).many, 144)
        for action in (Stair.all_full, Stair.all_empty):
            for wrong in WRONG_INTEGERS + (0, 13):
                self.refuses(BadWant("high"), action, wrong, None)
                self.refuses(BadWant("wide"), action, 1, wrong)

    def test_of_core(self):
        self.assertEqual(Stair.of_core(Table.read("0 -2\n1/2 3")).rows, ((0, 1), (1, 1)))
        self.refuses(BadStair(1, 1), Stair.of_core, Table.read("0 -2\n1/2 0"))

    def test_strings(self):
        for stair in STAIRS:
            self.assertEqual(read_stair(stair.words()), stair)
        self.assertEqual(EXAMPLE.words(), ".##\n.##\n###")
        self.assertEqual(Stair([[0, 1], [1, 1]]).words(), ".#\n##")
        self.assertEqual(read_stair(words="#").rows, ((1,),))

    def test_refused_strings(self):
        for wrong in (None, 1, b"#", ["#"], EXAMPLE):
            self.refuses(BadText(-1), read_stair, wrong)
        for line in range(3):
            for word in ("", "# ", "#x", "01", " ", "#\r", "#\t", "\u0661"):
                lines = ["##"] * 3
                lines[line] = word
                self.refuses(BadText(line), read_stair, "\n".join(lines))
        self.refuses(BadText(0), read_stair, "")
        self.refuses(BadText(1), read_stair, "##\n")
        self.refuses(BadText(0), read_stair, "x\n")
        self.refuses(BadTable(1), read_stair, "##\n#")
        self.refuses(BadText(2), read_stair, "##\n#\nx")
        self.refuses(TooMany(12), read_stair, "#" * 13)
        self.refuses(TooMany(12), read_stair, "\n".join("#" * 13))
        self.refuses(BadStair(1, 1), read_stair, ".#\n#.")


class Asking(Case):
    def test_attributes(self):
        stair = Stair([[0, 1, 1], [1, 1, 1]])
        self.assertEqual((stair.rows, stair.high, stair.wide, stair.many), (((0, 1, 1), (1, 1, 1)), 2, 3, 5))
        self.assertEqual(len(stair), 5)
        self.assertEqual(list(stair), [(0, 1, 1), (1, 1, 1)])
        self.assertEqual(len(Stair.all_empty(2, 2)), 0)

    def test_boxes(self):
        for stair in STAIRS:
            full = [box for box in boxes_of_size(stair) if stair.rows[box[0]][box[1]]]
            empty = [box for box in boxes_of_size(stair) if box not in full]
            self.assertEqual(stair.full_boxes(), tuple(full))
            self.assertEqual(stair.empty_boxes(), tuple(empty))
            self.assertEqual((stair.many, len(stair)), (len(full), len(full)))
            for row, column in boxes_of_size(stair):
                self.assertIs(stair.has(row, column), (row, column) in full)
                self.assertIs((row, column) in stair, (row, column) in full)

    def test_in_takes_boxes_alone(self):
        stair = Stair.all_full(2, 2)
        for wrong in ([0, 0], (0,), (0, 0, 0), (True, 0), (0, False), (0.0, 0), ("0", 0), None, 0, "00", (2, 0), (0, 2),
                      (-1, 0), (0, -1), (1, 1, 1), ((0, 0),), stair, stair.rows[0] + (1,)):
            self.assertIs(wrong in stair, False)
        self.assertTrue((1, 1) in stair)

    def test_first_and_top(self):
        for stair in STAIRS:
            for row in range(stair.high):
                full = [column for column in range(stair.wide) if stair.rows[row][column]]
                self.assertEqual(stair.first(row), min(full, default=stair.wide))
            for column in range(stair.wide):
                full = [row for row in range(stair.high) if stair.rows[row][column]]
                self.assertEqual(stair.top(column), min(full, default=stair.high))
        stair = Stair.all_full(2, 3)
        for wrong in WRONG_INTEGERS:
            self.refuses(BadBox(wrong, -1), stair.first, wrong)
            self.refuses(BadBox(-1, wrong), stair.top, wrong)
        self.refuses(BadBox(2, -1), stair.first, 2)
        self.refuses(BadBox(-1, 3), stair.top, 3)
        self.assertEqual((stair.first(row=1), stair.top(column=2)), (0, 0))

    def test_barred(self):
        for stair in STAIRS:
            wanted = tuple(column for column in range(stair.wide)
                           if any(not row[column] and any(row[:column]) for row in stair.rows))
            self.assertEqual(stair.barred(), wanted)
        self.assertEqual(Stair([[0, 0, 0], [0, 1, 0]]).barred(), (2,))

    def test_inside(self):
        for one in STAIRS[::3]:
            for other in STAIRS[::4]:
                if one.high != other.high:
                    self.refuses(OtherSize(one.high, other.high), one.inside, other)
                elif one.wide != other.wide:
                    self.refuses(OtherSize(one.wide, other.wide), one.inside, other)
                else:
                    self.assertIs(one.inside(other), set(one.full_boxes()) <= set(other.full_boxes()))
        self.assertIs(EXAMPLE.inside(other=EXAMPLE), True)

    def test_corner(self):
        for stair in STAIRS:
            for row, column in boxes_of_size(stair):
                self.assertEqual(stair.corner(row, column).rows, tuple(line[column:] for line in stair.rows[row:]))

    def test_with_and_without(self):
        for stair in STAIRS:
            for row, column in boxes_of_size(stair):
                for action, sign in ((stair.with_box, 1), (stair.without_box, 0)):
                    rows = [list(line) for line in stair.rows]
                    rows[row][column] = sign
                    if plain_stair(rows):
                        self.assertEqual(action(row, column), Stair(rows))
                    else:
                        with self.assertRaises(BadStair) as wanted:
                            Stair(rows)
                        self.refuses(wanted.exception, action, row, column)

    def test_boxes_outside(self):
        stair = Stair.all_full(2, 3)
        for row, column in ((-1, 0), (0, -1), (2, 0), (0, 3), (True, 0), (0, False), (None, 0), (0, "1"), (1.0, 0)):
            for action in (stair.has, stair.corner, stair.with_box, stair.without_box):
                self.refuses(BadBox(row, column), action, row, column)
        for action in (stair.has, stair.corner, stair.with_box, stair.without_box):
            action(row=0, column=0)


class Signs(Case):
    def test_turned(self):
        for stair in STAIRS:
            self.assertEqual((~stair).rows, tuple(zip(*stair.rows)))
            self.assertEqual(~~stair, stair)

    def test_equal(self):
        for place, one in enumerate(STAIRS):
            for other_place, other in enumerate(STAIRS):
                self.assertEqual(one == other, place == other_place)
        for other in (EXAMPLE.rows, None, EXAMPLE.words(), Table.unit(3), 1):
            self.assertFalse(EXAMPLE == other)
            self.assertTrue(EXAMPLE != other)
        self.assertFalse(Table.read("1") == Stair([[1]]))


if __name__ == "__main__":
    unittest.main()
