import unittest
from fractions import Fraction

from helpers import WRONG_INTEGERS, Case, fractions_of, num, table_of, tables_of_any_sign
from minusless.errors import (BadBox, BadLot, BadNumber, BadTable, BadText, BadWant, MinusError, OtherSize, TooMany)
from minusless.tables import Table, beside

TABLE = table_of([[1, 2, 3], [4, Fraction(-5, 2), 6]])
ONE = (1, 1)


def filled(high, wide):
    return Table([[(row * 20 + column, 1) for column in range(wide)] for row in range(high)])


class Form(Case):
    def test_attributes(self):
        table = Table([[(1, 2), (0, 1)], ((3, 1), (-1, 1)), [(5, 1), (6, 1)]])
        self.assertEqual(table.rows, (((1, 2), (0, 1)), ((3, 1), (-1, 1)), ((5, 1), (6, 1))))
        self.assertEqual((table.high, table.wide), (3, 2))
        self.assertIs(type(table.rows), tuple)
        self.assertEqual({type(row) for row in table.rows}, {tuple})
        self.assertEqual(Table(rows=((ONE,),)).rows, ((ONE,),))

    def test_later_changes_have_no_effect(self):
        rows = [[ONE, ONE], [ONE, ONE]]
        table = Table(rows)
        rows[0][0] = (7, 1)
        rows.append([ONE, ONE])
        self.assertEqual(table.rows, ((ONE, ONE), (ONE, ONE)))

    def test_no_rows(self):
        for wrong in (None, 1, "1", (), [], {0: [ONE]}, TABLE, iter([[ONE]]), True):
            self.refuses(BadTable(-1), Table, wrong)

    def test_first_wrong_row(self):
        for row in (None, 1, "ab", {0: ONE}, {ONE}, [], (), [ONE], [ONE, ONE, ONE]):
            self.refuses(BadTable(1), Table, [[ONE, ONE], row, None])
        for row in (None, [], (), "a", 1, {ONE}):
            self.refuses(BadTable(0), Table, [row, [ONE]])
        self.refuses(BadTable(2), Table, [[(2, 4)], [ONE], []])

    def test_twelve_and_thirteen(self):
        self.assertEqual(filled(12, 12).high, 12)
        self.assertEqual(filled(1, 12).wide, 12)
        for high, wide in ((13, 1), (1, 13), (13, 13)):
            self.refuses(TooMany(12), Table, [[ONE] * wide] * high)
        self.refuses(TooMany(12), Table, [[None] * 13])
        self.refuses(BadTable(13), Table, [[ONE]] * 13 + [[]])

    def test_first_wrong_number(self):
        for wrong in ((2, 4), [1, 1], 1, None, (True, 1), (1, 0), (1, 1, 1)):
            self.refuses(BadNumber(1), Table, [[ONE, wrong], [wrong, ONE]])
            self.refuses(BadNumber(0), Table, [[ONE, ONE], [wrong, wrong]])


class Makers(Case):
    def test_unit(self):
        for size in (1, 2, 12):
            self.assertEqual(fractions_of(Table.unit(size)),
                             [[int(row == column) for column in range(size)] for row in range(size)])
        for wrong in WRONG_INTEGERS + (0, 13):
            self.refuses(BadWant("size"), Table.unit, wrong)

    def test_nought(self):
        self.assertEqual(Table.nought(2, 3).rows, (((0, 1),) * 3,) * 2)
        self.assertEqual(Table.nought(high=12, wide=1).high, 12)
        for wrong in WRONG_INTEGERS + (0, 13):
            self.refuses(BadWant("high"), Table.nought, wrong, 0)
            self.refuses(BadWant("wide"), Table.nought, 1, wrong)

    def test_square(self):
        self.assertIs(Table.unit(2).square, True)
        self.assertIs(TABLE.square, False)


class Strings(Case):
    def test_words(self):
        self.assertEqual(TABLE.words(), "1 2 3\n4 -5/2 6")
        self.assertEqual(Table([[(0, 1)]]).words(), "0")

    def test_each_undoes_the_other(self):
        for table in tables_of_any_sign(60) + [filled(12, 12)]:
            self.assertEqual(Table.read(table.words()), table)
            self.assertEqual(Table.read(table.words()).words(), table.words())

    def test_no_string(self):
        for wrong in (None, 1, b"1", ["1"], TABLE):
            self.refuses(BadText(-1), Table.read, wrong)

    def test_refused_at_each_line(self):
        for word in ("", " ", "1 ", " 1", "1  1", "-0", "2/4", "01", "x", "1\t1", "1\r", "1/1", "1" + "0" * 60, "1,1"):
            for line in range(3):
                lines = ["1 1"] * 3
                lines[line] = word
                error = self.refuses(BadText(line), Table.read, "\n".join(lines))
                self.assertIsInstance(error.__cause__, BadText)
                self.assertEqual(error.__cause__.line, -1)
        self.refuses(BadText(0), Table.read, "")
        self.refuses(BadText(1), Table.read, "1 1\n")
        self.refuses(BadText(0), Table.read, "\n1 1")
        self.refuses(BadText(0), Table.read, "x\ny")

    def test_then_what_the_table_raises(self):
        self.refuses(BadTable(1), Table.read, "1 1\n1")
        self.refuses(BadText(2), Table.read, "1 1\n1\nx")
        self.refuses(TooMany(12), Table.read, "\n".join(["1"] * 13))
        self.refuses(TooMany(12), Table.read, " ".join(["1"] * 13))

    def test_sixty_figures(self):
        words = "9" * 60 + " 1/1" + "0" * 59
        self.assertEqual(Table.read(words=words).words(), words)
        self.refuses(BadText(0), Table.read, "9" * 61)


class Parts(Case):
    def test_entry(self):
        for row in range(2):
            for column in range(3):
                self.assertEqual(TABLE.entry(row, column), TABLE.rows[row][column])
        self.assertEqual(TABLE.entry(row=1, column=0), (4, 1))

    def test_boxes_outside(self):
        wrong = [(-1, 0), (0, -1), (2, 0), (0, 3), (True, 0), (0, True), ("0", 0), (0, None), (0.0, 0), ((0,), 0),
                 (10 ** 9, 0), (None, None)]
        for row, column in wrong:
            self.refuses(BadBox(row, column), TABLE.entry, row, column)
            self.refuses(BadBox(row, column), TABLE.corner, row, column)
            self.refuses(BadBox(row, column), TABLE.raised, row, column, ONE)
            self.refuses(BadBox(row, column), TABLE.raised, row, column, None)

    def test_turned(self):
        for table in tables_of_any_sign(40):
            for row in range(table.high):
                for column in range(table.wide):
                    number = table.entry(row, column)
                    self.assertEqual(table.turned().entry(column, row), number)
                    self.assertEqual((~table).entry(column, row), number)
                    last, end = table.high - 1, table.wide - 1
                    self.assertEqual(table.half_turned().entry(last - row, end - column), number)
            self.assertEqual(~~table, table)
            self.assertEqual(table.half_turned().half_turned(), table)
            self.assertEqual((table.turned().high, table.turned().wide), (table.wide, table.high))

    def test_part(self):
        self.assertEqual(fractions_of(filled(3, 4).part([0, 2], (1, 3))), [[1, 3], [41, 43]])
        self.assertEqual(filled(3, 4).part((0, 1, 2), [0, 1, 2, 3]), filled(3, 4))
        self.assertEqual(fractions_of(filled(3, 4).part(rows=(1,), columns=(2,))), [[22]])

    def test_part_refuses(self):
        self.refuses(BadLot(-1), TABLE.part, [], None)
        self.refuses(BadLot(-1), TABLE.part, None, [5])
        self.refuses(BadLot(0), TABLE.part, [2], [])
        self.refuses(BadLot(1), TABLE.part, [0, 0], [])
        self.refuses(BadLot(-1), TABLE.part, [0], ())
        self.refuses(BadLot(1), TABLE.part, [0], (0, 3))
        self.refuses(BadLot(0), TABLE.part, [0], (True,))

    def test_corner(self):
        for row in range(2):
            for column in range(3):
                self.assertEqual(TABLE.corner(row, column).rows, tuple(line[column:] for line in TABLE.rows[row:]))


class Changed(Case):
    def test_without(self):
        self.assertEqual(fractions_of(filled(3, 2).without_row(1)), [[0, 1], [40, 41]])
        self.assertEqual(fractions_of(filled(2, 3).without_column(1)), [[0, 2], [20, 22]])
        self.assertEqual(fractions_of(filled(2, 2).without_row(at=0)), [[20, 21]])
        self.assertEqual(fractions_of(filled(2, 2).without_column(at=1)), [[0], [20]])

    def test_the_only_one(self):
        self.refuses(TooMany(1), filled(1, 3).without_row, 0)
        self.refuses(TooMany(1), filled(3, 1).without_column, 0)
        self.refuses(BadBox(1, -1), filled(1, 3).without_row, 1)
        self.refuses(BadBox(-1, 1), filled(3, 1).without_column, 1)

    def test_places(self):
        table = filled(3, 4)
        row, column = [ONE] * 4, [ONE] * 3
        for at in WRONG_INTEGERS:
            self.refuses(BadBox(at, -1), table.without_row, at)
            self.refuses(BadBox(-1, at), table.without_column, at)
            self.refuses(BadBox(at, -1), table.with_row, at, None)
            self.refuses(BadBox(-1, at), table.with_column, at, None)
            self.refuses(BadBox(at, -1), table.copied_row, at)
            self.refuses(BadBox(at, -1), table.joined_rows, at)
            self.refuses(BadBox(at, -1), table.times_row, at, None)
            self.refuses(BadBox(at, -1), table.has_nought_row, at)
            self.refuses(BadBox(at, -1), lambda: table[at])
        for at in (3, 4):
            self.refuses(BadBox(at, -1), table.without_row, at)
            self.refuses(BadBox(at, -1), table.copied_row, at)
            self.refuses(BadBox(at, -1), table.times_row, at, ONE)
            self.refuses(BadBox(at, -1), table.has_nought_row, at)
            self.refuses(BadBox(at, -1), lambda: table[at])
        self.refuses(BadBox(2, -1), table.joined_rows, 2)
        self.refuses(BadBox(0, -1), filled(1, 2).joined_rows, 0)
        self.refuses(BadBox(-1, 4), table.without_column, 4)
        self.refuses(BadBox(4, -1), table.with_row, 4, row)
        self.refuses(BadBox(-1, 5), table.with_column, 5, column)
        self.assertEqual(table.with_row(3, row).high, 4)
        self.assertEqual(table.with_column(4, column).wide, 5)

    def test_with(self):
        table = filled(2, 2)
        self.assertEqual(fractions_of(table.with_row(0, [ONE, (1, 2)])), [[1, Fraction(1, 2)], [0, 1], [20, 21]])
        self.assertEqual(fractions_of(table.with_row(1, (ONE, ONE))), [[0, 1], [1, 1], [20, 21]])
        self.assertEqual(fractions_of(table.with_row(at=2, row=[ONE, ONE])), [[0, 1], [20, 21], [1, 1]])
        self.assertEqual(fractions_of(table.with_column(0, [ONE, (1, 2)])), [[1, 0, 1], [Fraction(1, 2), 20, 21]])
        self.assertEqual(fractions_of(table.with_column(1, (ONE, ONE))), [[0, 1, 1], [20, 1, 21]])
        self.assertEqual(fractions_of(table.with_column(at=2, column=[ONE, ONE])), [[0, 1, 1], [20, 21, 1]])
        for at in range(3):
            self.assertEqual(table.with_row(at, [ONE, ONE]).without_row(at), table)
            self.assertEqual(table.with_column(at, [ONE, ONE]).without_column(at), table)

    def test_with_refuses_in_order(self):
        for table in (filled(2, 3), filled(12, 3), filled(2, 12)):
            self.refuses(BadNumber(-1), table.with_row, 0, None)
            self.refuses(BadNumber(1), table.with_row, 0, [ONE, (2, 4)])
            self.refuses(OtherSize(2, table.wide), table.with_row, 0, [ONE, ONE])
            self.refuses(OtherSize(0, table.wide), table.with_row, 0, [])
            self.refuses(BadNumber(-1), table.with_column, 0, "ab")
            self.refuses(BadNumber(0), table.with_column, 0, [1] * 20)
            self.refuses(OtherSize(13, table.high), table.with_column, 0, [ONE] * 13)
        self.refuses(TooMany(12), filled(12, 3).with_row, 12, [ONE] * 3)
        self.refuses(TooMany(12), filled(2, 12).with_column, 0, [ONE] * 2)
        self.assertEqual(filled(11, 3).with_row(11, [ONE] * 3).high, 12)
        self.assertEqual(filled(2, 11).with_column(0, [ONE] * 2).wide, 12)

    def test_copied_row(self):
        self.assertEqual(fractions_of(filled(2, 1).copied_row(0)), [[0], [0], [20]])
        self.assertEqual(fractions_of(filled(2, 1).copied_row(at=1)), [[0], [20], [20]])
        self.refuses(TooMany(12), filled(12, 1).copied_row, 3)
        self.refuses(BadBox(12, -1), filled(12, 1).copied_row, 12)
        self.assertEqual(filled(11, 1).copied_row(10).high, 12)

    def test_joined_rows(self):
        self.assertEqual(fractions_of(filled(3, 2).joined_rows(0)), [[20, 22], [40, 41]])
        self.assertEqual(fractions_of(filled(3, 2).joined_rows(at=1)), [[0, 1], [60, 62]])

    def test_times_row(self):
        self.assertEqual(fractions_of(TABLE.times_row(1, (-1, 2))), [[1, 2, 3], [-2, Fraction(5, 4), -3]])
        self.assertEqual(fractions_of(TABLE.times_row(at=0, number=(0, 1)))[0], [0, 0, 0])
        for wrong in (None, 1, (2, 4), [1, 1]):
            self.refuses(BadNumber(-1), TABLE.times_row, 0, wrong)
            self.refuses(BadNumber(-1), TABLE.raised, 0, 0, wrong)

    def test_raised(self):
        self.assertEqual(fractions_of(TABLE.raised(1, 1, (1, 2))), [[1, 2, 3], [4, -2, 6]])
        self.assertEqual(fractions_of(TABLE.raised(row=0, column=2, number=(-3, 1)))[0], [1, 2, 0])

    def test_has_nought_row(self):
        table = table_of([[0, 0], [0, 1], [1, -1]])
        self.assertEqual([table.has_nought_row(at) for at in range(3)], [True, False, False])
        self.assertIs(table.has_nought_row(at=0), True)

    def test_nothing_changes(self):
        table = filled(3, 3)
        before = table.rows
        row = [ONE, ONE, ONE]
        for action in (table.turned, table.half_turned, lambda: table.part([0], [0]), lambda: table.with_row(0, row),
                       lambda: table.with_column(0, row), lambda: table.raised(0, 0, ONE), lambda: table * table,
                       lambda: table.times_row(0, (5, 1)), lambda: table.joined_rows(0), lambda: table.copied_row(0)):
            self.assertIsNot(action(), table)
        self.assertEqual(table.rows, before)
        self.assertEqual(row, [ONE, ONE, ONE])
        added = table.with_row(0, row)
        row[0] = (9, 1)
        self.assertEqual(added.rows[0], (ONE, ONE, ONE))


class Signs(Case):
    def test_product(self):
        for one in tables_of_any_sign(30, seed=3):
            for other in tables_of_any_sign(8, seed=4):
                if one.wide != other.high:
                    self.refuses(OtherSize(one.wide, other.high), lambda: one * other)
                    continue
                wanted = [[num(sum(Fraction(*one.rows[row][k]) * Fraction(*other.rows[k][column])
                                   for k in range(one.wide))) for column in range(other.wide)]
                          for row in range(one.high)]
                self.assertEqual(one * other, Table(wanted))

    def test_unit_is_neutral(self):
        for table in tables_of_any_sign(20):
            self.assertEqual(Table.unit(table.high) * table, table)
            self.assertEqual(table * Table.unit(table.wide), table)

    def test_equal(self):
        self.assertTrue(TABLE == Table.read(TABLE.words()))
        self.assertFalse(TABLE != Table.read(TABLE.words()))
        for other in (TABLE.turned(), TABLE.raised(0, 0, ONE), TABLE.rows, None, TABLE.words(), 1,
                      TABLE.without_row(0)):
            self.assertFalse(TABLE == other)
            self.assertTrue(TABLE != other)

    def test_rows(self):
        self.assertEqual(len(TABLE), 2)
        self.assertEqual(TABLE[1], TABLE.rows[1])
        self.assertEqual(list(TABLE), list(TABLE.rows))
        for wrong in (slice(0, 1), "0", 0.0, (0, 0)):
            with self.assertRaises(BadBox) as caught:
                TABLE[wrong]
            self.assertEqual((caught.exception.row, caught.exception.column), (wrong, -1))
        first, second = TABLE
        self.assertEqual((first, second), TABLE.rows)


class Beside(Case):
    def test_beside(self):
        self.assertEqual(beside(TABLE), TABLE)
        self.assertEqual(fractions_of(beside(filled(2, 2), filled(2, 1), filled(2, 1))), [[0, 1, 0, 0], [20, 21, 20, 20]])
        self.assertEqual(beside(filled(3, 5), filled(3, 7)).wide, 12)
        self.assertEqual(beside(*[filled(1, 1)] * 12).wide, 12)

    def test_beside_refuses(self):
        self.refuses(BadWant("tables"), beside)
        self.refuses(OtherSize(2, 3), beside, filled(2, 12), filled(2, 1), filled(3, 1), filled(4, 1))
        self.refuses(TooMany(12), beside, filled(2, 12), filled(2, 1))
        self.refuses(TooMany(12), beside, *[filled(1, 1)] * 13)

    def test_errors_are_of_the_package(self):
        with self.assertRaises(MinusError):
            beside()


if __name__ == "__main__":
    unittest.main()
