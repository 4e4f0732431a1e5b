"""[8]: the orders by each number."""

import itertools
import random
import unittest

import samples
from boxlayers.orders import order_by


def is_ahead(d, i, one, other):
    """By number i, then the next ones, round behind the last one, then by name."""
    at = i
    for turn in range(d):
        if one[1][at] != other[1][at]:
            return one[1][at] < other[1][at]
        at = at + 1 if at + 1 < d else 0
    return one[0] < other[0]


def plainly(house, i):
    d, things = house
    by_name = {thing[0]: thing for thing in things}
    return samples.put(list(by_name), lambda one, other: is_ahead(d, i, by_name[one], by_name[other]))


class OrderBy(unittest.TestCase):
    def check(self, house):
        for i in range(house[0]):
            told = order_by(house, i)
            self.assertEqual(told, plainly(house, i), (house, i))
            self.assertIs(type(told), tuple)
            self.assertEqual(order_by(house, i), told)

    def test_by_hand(self):
        house = (3, ((0, (1, 2, 3), 0), (2, (1, 2, 1), 0), (3, (0, 3, 2), 0), (5, (2, 0, 3), 0), (8, (1, 2, 1), 9)))
        self.assertEqual(order_by(house, 0), (3, 2, 8, 0, 5))
        self.assertEqual(order_by(house, 1), (5, 2, 8, 0, 3))
        self.assertEqual(order_by(house, 2), (2, 8, 3, 0, 5))

    def test_round_behind_the_last_number(self):
        # Alike in number 2; then number 0 comes ahead of number 1, the next ones in turn.
        house = (3, ((0, (1, 0, 7), 0), (1, (0, 1, 7), 0), (2, (0, 0, 7), 0)))
        self.assertEqual(order_by(house, 2), (2, 1, 0))
        # Alike in number 1; then number 2 comes ahead of number 0.
        house = (3, ((0, (0, 7, 1), 0), (1, (1, 7, 0), 0), (2, (0, 7, 0), 0)))
        self.assertEqual(order_by(house, 1), (2, 1, 0))

    def test_all_places_of_two_numbers_each(self):
        for d in range(1, 5):
            places = list(itertools.product((0, 1), repeat=d)) * 2
            random.Random(30 + d).shuffle(places)
            self.check((d, tuple((name, place, 0) for name, place in enumerate(places))))

    def test_houses_of_none_to_forty_things(self):
        dice = random.Random(31)
        for d in range(1, 5):
            for many in list(range(0, 12)) + [25, 40]:
                for numbers in (range(5, 6), range(0, 2), range(-3, 4), range(-999, 1000), (-samples.BIG, 0, samples.BIG)):
                    self.check(samples.made_house(dice, d, many, numbers))

    def test_alike_in_all_numbers_by_name(self):
        for d in range(1, 5):
            house = (d, tuple((name, (4,) * d, -name) for name in range(0, 40, 3)))
            for i in range(d):
                self.assertEqual(order_by(house, i), tuple(range(0, 40, 3)))

    def test_worths_change_nothing(self):
        dice = random.Random(32)
        for d in range(1, 5):
            house = samples.made_house(dice, d, 20, range(0, 3))
            other = (d, tuple((name, place, dice.randint(-99, 99)) for name, place, worth in house[1]))
            for i in range(d):
                self.assertEqual(order_by(house, i), order_by(other, i))

    def test_of_no_things(self):
        for d in range(1, 5):
            for i in range(d):
                self.assertEqual(order_by((d, ()), i), ())


if __name__ == "__main__":
    unittest.main()
