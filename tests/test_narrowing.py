import random
import unittest
from fractions import Fraction

from helpers import Case, frac, num, plain_good, random_table, table_of
from minusless.errors import BadDeed, NotGood, NotSquare
from minusless.mainrule import core_fault, is_good
from minusless.narrowing import dropped, narrowed, replayed
from minusless.stairs import Stair
from minusless.tables import Table
from minusless.unmaking import unmade
from polyhelpers import plain_poly
from stairhelpers import STAIRS, good_on, good_tables_on, random_stair

NOUGHT, ONE = (0, 1), (1, 1)
RNG = random.Random(141)
GOOD = (good_tables_on([stair for stair in STAIRS if stair.high == stair.wide][::2], seed=142)
        + [good_on(RNG, random_stair(RNG, size, size, full)) for size in (4, 5, 6) for full in (0.3, 0.5, 0.7, 0.9)
           for _ in range(12)])
SQUARES = [random_table(RNG, size, size, noughts=noughts) for size in (1, 2, 3, 4) for noughts in (0.1, 0.5)
           for _ in range(15)]


def plain_deed(rows, deed):
    """The rows of fractions behind the deed, in the words of the document."""
    word, at = deed[0], deed[1]
    rows = [list(row) for row in rows]
    size = len(rows)
    if word == "drop":
        return [[rows[i][j] for j in range(size) if j != at] for i in range(size) if i != at]
    amount = frac(deed[2])
    if word == "row":
        rows[at] = [value - amount * above for value, above in zip(rows[at], rows[at - 1])]
        for row in rows:
            row[at - 1] += amount * row[at]
    else:
        for row in rows:
            row[at] -= amount * row[at - 1]
        rows[at - 1] = [value + amount * below for value, below in zip(rows[at - 1], rows[at])]
    return rows


def plain_narrowed(table):
    rows = [[frac(number) for number in row] for row in table.rows]
    deeds = []

    def do(*deed):
        deeds.append(deed)
        rows[:] = plain_deed(rows, deed)

    place = 0
    while len(rows) >= place + 3:
        at = len(rows) - 1
        while at >= place + 2:
            if rows[at][place] != 0:
                if rows[at - 1][place] != 0:
                    do("row", at, num(rows[at][place] / rows[at - 1][place]))
                else:
                    assert not any(rows[at - 1])
                    do("drop", at - 1)
            at -= 1
        at = len(rows) - 1
        while at >= place + 2:
            if rows[place][at] != 0:
                if rows[place][at - 1] != 0:
                    do("column", at, num(rows[place][at] / rows[place][at - 1]))
                else:
                    assert not any(row[at - 1] for row in rows)
                    do("drop", at - 1)
            at -= 1
        place += 1
    return table_of(rows), tuple(deeds)


def is_narrow(table):
    return all(table.rows[i][j] == NOUGHT for i in range(table.high) for j in range(table.high) if abs(i - j) >= 2)


def times_x(poly, many):
    return poly + [Fraction(0)] * many


class Narrowed(Case):
    def test_deeds_in_order(self):
        words = {"row": 0, "column": 0, "drop": 0}
        for table in GOOD:
            found, deeds = narrowed(table)
            self.assertIs(type(narrowed(table=table)), tuple)
            self.assertEqual((found, deeds), plain_narrowed(table))
            self.assertTrue(type(deeds) is tuple and all(type(deed) is tuple for deed in deeds))
            self.assertTrue(is_narrow(found))
            self.assertTrue(is_good(found))
            self.assertEqual(replayed(table, list(deeds)), found)
            self.assertEqual(dropped(list(deeds)), table.high - found.high)
            for deed in deeds:
                words[deed[0]] += 1
        self.assertGreater(min(words.values()), 20)

    def test_polynomials(self):
        for table in GOOD[::2]:
            found, deeds = narrowed(table)
            drops = dropped(deeds)
            self.assertEqual(plain_poly(table), times_x(plain_poly(found), drops))
            self.assertEqual(plain_poly(table, 1), times_x(plain_poly(found, 1), drops))
            self.assertTrue(found.high > 4 or plain_good(found))

    def test_small(self):
        for words in ("5", "0", "1 2\n1 3", "0 1\n0 0"):
            table = Table.read(words)
            self.assertEqual(narrowed(table), (table, ()))
        self.assertEqual(narrowed(Table.nought(12, 12)), (Table.nought(12, 12), ()))

    def test_twelve(self):
        table = good_on(RNG, Stair.all_full(12, 12))
        found, deeds = narrowed(table)
        self.assertTrue(is_narrow(found) and is_good(found))
        self.assertEqual((found.high, len(deeds), dropped(deeds)), (12, 110, 0))
        self.assertEqual(replayed(table, deeds), found)

    def test_errors(self):
        self.refuses(NotSquare(2, 3), narrowed, Table.read("0 -1 0\n0 0 0"))
        for words in ("1 2\n2 1", "1 0\n0 -1", "0 1\n1 0", "-1"):
            bad = Table.read(words)
            row, column = core_fault(unmade(bad))
            self.refuses(NotGood(row, column), narrowed, bad)


class Replayed(Case):
    def test_any_table_and_deeds(self):
        for table in SQUARES:
            rows = [[frac(number) for number in row] for row in table.rows]
            deeds = []
            for _ in range(RNG.randint(0, 5)):
                size = len(rows)
                empty = [at for at in range(size) if not any(rows[at]) or not any(row[at] for row in rows)]
                if empty and size > 1 and RNG.random() < 0.5:
                    deeds.append(RNG.choice((tuple, list))(("drop", RNG.choice(empty))))
                elif size > 1:
                    amount = RNG.choice((NOUGHT, (-1, 2), (3, 1), ONE))
                    deeds.append((RNG.choice(("row", "column")), RNG.randint(1, size - 1), amount))
                else:
                    continue
                rows = plain_deed(rows, deeds[-1])
            self.assertEqual(replayed(table, list(deeds)), table_of(rows))
            self.assertEqual(replayed(table=table, deeds=tuple(deeds)), table_of(rows))
            self.assertEqual(plain_poly(table), times_x(plain_poly(table_of(rows)), table.high - len(rows)))
        self.assertEqual(replayed(Table.read("1 2\n3 4"), []), Table.read("1 2\n3 4"))
        self.assertEqual(replayed(Table.read("1 2\n3 4"), [["row", 1, (3, 1)]]), Table.read("7 2\n-6 -2"))

    def wrong_forms(self):
        for wrong in (None, 1, "row", "", (), [], {"row": 1}, (1, 1, ONE), (None, 1), (("row",), 1, ONE), [["drop"], 0]):
            yield wrong, "" if not isinstance(wrong, (list, tuple)) or not wrong or not isinstance(wrong[0], str) else wrong[0]
        for word in ("", "Row", "rows", "turn", "drop "):
            yield (word, 1, ONE), word
            yield [word], word
        for word in ("row", "column"):
            for wrong in ((word,), (word, 1), (word, 1, ONE, 0), [word, 1, ONE, ONE]):
                yield wrong, word
            for place in (True, None, 1.0, "1", (1,), ONE):
                yield (word, place, ONE), word
            for amount in (None, 1, "1", (2, 4), [1, 1], (1, 0), (True, 1)):
                yield (word, 1, amount), word
        for wrong in (("drop",), ("drop", 0, ONE), ["drop", 0, 0], ("drop", True), ("drop", None), ("drop", "0"),
                      ("drop", 0.0), ("drop", ONE)):
            yield wrong, "drop"

    def test_wrong_forms(self):
        table = Table.read("1 0 1\n0 0 0\n1 0 1")
        good = ("row", 1, ONE)
        many = 0
        for wrong, word in self.wrong_forms():
            many += 1
            for deeds in ([wrong], [good, wrong, None], (good, good, wrong, ("x",))):
                self.refuses(BadDeed(word), replayed, table, deeds)
                self.refuses(BadDeed(word), dropped, deeds)
        self.assertGreater(many, 50)
        for wrong in (None, 1, "", "drop", {}, {("drop", 1): 1}):
            self.refuses(BadDeed(""), replayed, table, wrong)
            self.refuses(BadDeed(""), dropped, wrong)

    def test_what_cannot_be_done(self):
        table = Table.read("1 0 1\n0 0 0\n1 0 1")
        for word in ("row", "column"):
            for place in (0, -1, 3, 99):
                self.refuses(BadDeed(word), replayed, table, [(word, place, ONE)])
            self.refuses(BadDeed(word), replayed, table, [("drop", 1), (word, 2, ONE)])
            self.refuses(BadDeed(word), replayed, Table.read("1"), [(word, 1, ONE)])
        for place in (0, 2, 3, -1, -2):
            self.refuses(BadDeed("drop"), replayed, table, [("drop", place)])
        self.refuses(BadDeed("drop"), replayed, table, [("drop", 1), ("drop", 1)])
        for place in (0, 1, -1):
            self.refuses(BadDeed("drop"), replayed, Table.read("0"), [("drop", place)])
        # The row is 0 or the column is.
        self.assertEqual(replayed(Table.read("1 2\n0 0"), [("drop", 1)]), Table.read("1"))
        self.assertEqual(replayed(Table.read("1 0\n2 0"), [["drop", 1]]), Table.read("1"))
        self.refuses(BadDeed("drop"), replayed, Table.read("1 0\n2 0"), [("drop", 0)])
        # The first deed at fault, whatever its fault is.
        self.refuses(BadDeed("drop"), replayed, table, [("drop", 0), ("row", 1)])
        self.refuses(BadDeed("row"), replayed, table, [("row", 1), ("drop", 0)])
        for place in (0, 1):
            self.assertEqual(replayed(Table.nought(2, 2), [("drop", place)]), Table.nought(1, 1))
        for place in (-1, -2, 2):
            self.refuses(BadDeed("drop"), replayed, Table.nought(2, 2), [("drop", place)])

    def test_errors_in_order(self):
        self.refuses(NotSquare(1, 2), replayed, Table.read("0 1"), None)
        self.refuses(NotSquare(2, 1), replayed, Table.read("0\n1"), [None])

    def test_dropped(self):
        self.assertEqual(dropped([]), 0)
        self.assertEqual(dropped(()), 0)
        for place in (-5, -1, 0, 3, 10 ** 9):
            self.assertEqual(dropped([("drop", place), ("row", place, ONE), ["drop", place], ("column", place, NOUGHT)]), 2)
        self.assertEqual(dropped(deeds=[["drop", 7]]), 1)


if __name__ == "__main__":
    unittest.main()
