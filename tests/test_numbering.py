import random
import unittest

from helpers import WRONG_INTEGERS, Case, all_patterns, plain_stair, sizes
from minusless.asking import tree_signs
from minusless.counting import count_stairs
from minusless.errors import BadLot, BadWant, TooMany
from minusless.numbering import count_above, next_stair, number_of_stair, stair_at, stairs_of
from minusless.stairs import Stair
from stairhelpers import STAIRS_OF, random_stair, stairs_sized


def ordered(stairs):
    """The stairs in their order: the last row counts first, and in each row the last column."""
    return sorted(stairs, key=lambda stair: [row[::-1] for row in stair.rows[::-1]])


LISTED = {size: ordered(stairs) for size, stairs in STAIRS_OF.items()}
LISTED.update({size: ordered(stairs_sized(*size)) for size in ((1, 5), (5, 1), (2, 4), (4, 2), (3, 4), (4, 3))})


class Order(Case):
    def test_all_stairs_in_their_order(self):
        for (high, wide), stairs in LISTED.items():
            found = list(stairs_of(high, wide))
            self.assertTrue(all(isinstance(stair, Stair) for stair in found))
            self.assertEqual([stair.rows for stair in found], [stair.rows for stair in stairs])
            self.assertEqual(len(found), count_stairs(high, wide))

    def test_told_by_the_last_box_in_which_they_differ(self):
        rng = random.Random(1)
        for _ in range(200):
            high, wide = rng.randint(1, 12), rng.randint(1, 12)
            one, other = random_stair(rng, high, wide), random_stair(rng, high, wide)
            # The tree goes through the boxes from the last one, so its signs tell the order.
            less = tree_signs(one) < tree_signs(other)
            self.assertEqual(number_of_stair(one) < number_of_stair(other), less)
            self.assertEqual(number_of_stair(one) == number_of_stair(other), one == other)

    def test_numbers(self):
        for (high, wide), stairs in LISTED.items():
            for number, stair in enumerate(stairs):
                self.assertEqual(number_of_stair(stair), number)
                self.assertEqual(stair_at(high, wide, number), stair)
                following = stairs[number + 1] if number + 1 < len(stairs) else None
                self.assertEqual(next_stair(stair), following)

    def test_each_undoes_the_other(self):
        rng = random.Random(2)
        for high, wide in [(12, 12), (12, 1), (1, 12), (12, 5), (4, 11)] + sizes(6):
            last = count_stairs(high, wide) - 1
            self.assertEqual(number_of_stair(stair=Stair.all_empty(high, wide)), 0)
            self.assertEqual(number_of_stair(Stair.all_full(high, wide)), last)
            self.assertEqual(stair_at(high, wide, last), Stair.all_full(high, wide))
            self.assertEqual(stair_at(high, wide, 0), Stair.all_empty(high, wide))
            for _ in range(10):
                number = rng.randint(0, last)
                stair = stair_at(high=high, wide=wide, number=number)
                self.assertTrue(plain_stair(stair.rows))
                self.assertEqual(number_of_stair(stair), number)
                stair = random_stair(rng, high, wide, rng.choice((0.2, 0.5, 0.95)))
                self.assertEqual(stair_at(high, wide, number_of_stair(stair)), stair)

    def test_next_at_twelve(self):
        rng = random.Random(3)
        for _ in range(10):
            stair = random_stair(rng, 12, 12, 0.7)
            following = next_stair(stair=stair)
            self.assertEqual(number_of_stair(following), number_of_stair(stair) + 1)
        self.assertIsNone(next_stair(Stair.all_full(12, 12)))
        self.assertEqual(next_stair(Stair.all_full(12, 12).without_box(0, 0)), Stair.all_full(12, 12))

    def test_refused(self):
        for wrong in WRONG_INTEGERS + (0, 13):
            self.refuses(BadWant("high"), stair_at, wrong, wrong, None)
            self.refuses(BadWant("wide"), stair_at, 12, wrong, None)
        for wrong in WRONG_INTEGERS + (14,):
            self.refuses(BadWant("number"), stair_at, 2, 2, wrong)
        self.refuses(BadWant("number"), stair_at, 12, 12, count_stairs(12, 12))


class Listing(Case):
    def test_with_so_many_boxes(self):
        for (high, wide), stairs in LISTED.items():
            for boxes in range(high * wide + 1):
                wanted = [stair.rows for stair in stairs if stair.many == boxes]
                self.assertEqual([stair.rows for stair in stairs_of(high, wide, boxes=boxes)], wanted)
        self.assertEqual(len(list(stairs_of(high=2, wide=2, boxes=None))), 14)

    def test_twenty_and_more(self):
        self.assertEqual(len(list(stairs_of(4, 5))), count_stairs(4, 5))
        self.assertEqual(len(list(stairs_of(10, 2, boxes=19))), 11)
        for high, wide in ((3, 7), (7, 3), (12, 12), (2, 11)):
            self.refuses(TooMany(20), lambda: list(stairs_of(high, wide)))
            self.refuses(TooMany(20), lambda: list(stairs_of(high, wide, boxes=high * wide)))
            self.refuses(BadWant("boxes"), lambda: list(stairs_of(high, wide, boxes=high * wide + 1)))

    def test_errors_in_order(self):
        for wrong in WRONG_INTEGERS + (0, 13):
            self.refuses(BadWant("high"), lambda: list(stairs_of(wrong, wrong, boxes=wrong)))
            self.refuses(BadWant("wide"), lambda: list(stairs_of(12, wrong, boxes=-1)))
        for wrong in (True, False, 1.0, "1", -1, 7, (1,)):
            self.refuses(BadWant("boxes"), lambda: list(stairs_of(2, 3, boxes=wrong)))

    def test_boxes_by_name_only(self):
        with self.assertRaises(TypeError):
            stairs_of(2, 2, 1)


class Above(Case):
    def test_rows_on_top(self):
        for high, wide in sizes(3):
            stairs = STAIRS_OF[high, wide]
            for lower in stairs[::7]:
                barred = lower.barred()
                fitting = [stair for stair in stairs if plain_stair(stair.rows + lower.rows)]
                self.assertEqual(fitting, [stair for stair in stairs
                                           if not any(row[column] for row in stair.rows for column in barred)])
                self.assertEqual(count_above(high, wide, list(barred)), len(fitting))

    def test_against_all_patterns(self):
        for high, wide in ((0, 3), (2, 3), (3, 2), (2, 0)):
            for number in range(2 ** wide):
                taken = [column for column in range(wide) if number >> column & 1]
                wanted = [rows for rows in all_patterns(high, wide) if plain_stair(rows)
                          and not any(row[column] for row in rows for column in taken)]
                self.assertEqual(count_above(high=high, wide=wide, taken=tuple(taken)), len(wanted))
        self.assertEqual(count_above(12, 12, list(range(5))), count_stairs(12, 7))
        self.assertEqual(count_above(12, 0, ()), 1)

    def test_errors_in_order(self):
        for wrong in WRONG_INTEGERS + (13,):
            self.refuses(BadWant("high"), count_above, wrong, wrong, None)
            self.refuses(BadWant("wide"), count_above, 12, wrong, None)
        for wrong, place in ((None, -1), ("01", -1), ([0, 3], 1), ([1, 0], 1), ([0, 0], 1), ([-1], 0), ([True], 0)):
            self.refuses(BadLot(place), count_above, 0, 3, wrong)


if __name__ == "__main__":
    unittest.main()
