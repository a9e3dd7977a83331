import unittest

from helpers import Case
from minusless.chips import By, Chip, Down, Up, read_chip
from minusless.errors import BadChip, BadText

HALF = (1, 2)
ONE = (1, 1)
CLASSES = (Down, Up, By)


class Chips(Case):
    def test_attributes(self):
        for made, kind in ((Down, "down"), (Up, "up"), (By, "by"), (Chip, "chip")):
            chip = made(3, HALF)
            self.assertEqual((chip.at, chip.amount, chip.KIND, made.KIND), (3, HALF, kind, kind))
            self.assertEqual((made(at=0, amount=(-1, 2)).at, made(0, (0, 1)).amount), (0, (0, 1)))
        for made in CLASSES:
            self.assertEqual(made.__bases__, (Chip,))

    def test_errors_in_order(self):
        for made in CLASSES + (Chip,):
            for wrong in (-1, True, False, None, 1.0, "0", (0,)):
                self.refuses(BadChip(0), made, wrong, None)
            for wrong in (None, 1, (2, 4), [1, 1], (True, 1), (1, 0), 0.5, "1"):
                self.refuses(BadChip(1), made, 0, wrong)

    def test_span(self):
        self.assertEqual([made(4, HALF).span() for made in CLASSES + (Chip,)], [5, 5, 4, 5])

    def test_moves(self):
        for wire in range(6):
            wanted = {made: ((wire, ONE),) for made in CLASSES}
            if wire == 2:
                wanted[Down] = ((2, ONE), (3, HALF))
                wanted[By] = ((2, HALF),)
            if wire == 3:
                wanted[Up] = ((3, ONE), (2, HALF))
            for made in CLASSES:
                self.assertEqual(made(2, HALF).moves(wire), wanted[made])
        self.assertEqual(Down(0, (0, 1)).moves(0), ((0, ONE), (1, (0, 1))))
        self.assertEqual(Up(0, ONE).moves(wire=1), ((1, ONE), (0, ONE)))
        self.assertEqual(By(0, (0, 1)).moves(0), ((0, (0, 1)),))

    def test_turned_chip(self):
        for made, other in ((Down, Up), (Up, Down), (By, By)):
            turned = made(3, HALF).turned_chip()
            self.assertIs(type(turned), other)
            self.assertEqual((turned.at, turned.amount), (3, HALF))

    def test_equal(self):
        for made in CLASSES:
            self.assertTrue(made(1, HALF) == made(1, HALF))
            self.assertFalse(made(1, HALF) != made(1, HALF))
            for other in (made(0, HALF), made(1, ONE), None, 1, "down 1 1/2", (1, HALF)):
                self.assertFalse(made(1, HALF) == other)
            for other in CLASSES:
                self.assertEqual(made(1, HALF) == other(1, HALF), made is other)

    def test_where_the_methods_stand(self):
        for made in CLASSES:
            self.assertIn("moves", vars(made))
            self.assertIn("turned_chip", vars(made))
        for made, name in ((Chip, "span"), (By, "span"), (Chip, "words"), (Chip, "__eq__")):
            self.assertIn(name, vars(made))


class Strings(Case):
    def test_words(self):
        self.assertEqual(Down(0, (-3, 4)).words(), "down 0 -3/4")
        self.assertEqual(Up(12, (5, 1)).words(), "up 12 5")
        self.assertEqual(By(3, (0, 1)).words(), "by 3 0")

    def test_each_undoes_the_other(self):
        for made in CLASSES:
            for at in (0, 1, 10, 10 ** 59):
                for amount in ((0, 1), (1, 1), (-7, 3), (10 ** 59, 7)):
                    chip = read_chip(made(at, amount).words())
                    self.assertIs(type(chip), made)
                    self.assertEqual(chip, made(at, amount))
        self.assertEqual(read_chip(words="by 0 1"), By(0, ONE))

    def test_refused(self):
        for words in ("", "down", "down 1", "down 1 1 1", "down  1 1", " down 1 1", "down 1 1 ", "down 1 1\n", "Down 1 1",
                      "chip 1 1", "left 1 1", "down -1 1", "down 01 1", "down +1 1", "down 1/2 1", "down x 1", "down 1 x",
                      "down 1 2/4", "down 1 -0", "down 1 1/1", "down 1 01", "up\t1 1", "by 1 ", "by  1", "down \u0661 1",
                      "down 1" + "0" * 60 + " 1", "down 1 1" + "0" * 60, "down 1 1/1" + "0" * 60):
            self.refuses(BadText(-1), read_chip, words)
        for wrong in (None, 1, b"by 0 1", By(0, ONE), ["by", "0", "1"]):
            self.refuses(BadText(-1), read_chip, wrong)


if __name__ == "__main__":
    unittest.main()
