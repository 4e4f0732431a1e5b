"""[6]: houses, their things, and which of them fit."""

import random
import unittest

import samples
from boxlayers.errors import BoxError, NoLine, NoNumber, NoText, NoThing, Taken
from boxlayers.houses import fitting, is_house, thing_of


def with_thing(house, at, thing):
    d, things = house
    return (d, things[:at] + (thing,) + things[at + 1:])


class IsHouse(unittest.TestCase):
    def setUp(self):
        dice = random.Random(10)
        self.houses = [samples.made_house(dice, d, many) for d in range(1, 5) for many in (0, 1, 2, 7)]

    def test_houses(self):
        dice = random.Random(11)
        for d in range(1, 5):
            for many in (0, 1, 2, 5, 60, 300, 301):
                house = samples.made_house(dice, d, many)
                self.assertIs(is_house(house), True)
                self.assertIs(is_house(house), True)

    def test_things_at_one_place_and_of_like_worths(self):
        self.assertIs(is_house((2, ((0, (1, 1), 5), (1, (1, 1), 5), (9, (1, 1), 5)))), True)

    def test_big_numbers(self):
        big = samples.BIG
        self.assertIs(is_house((1, ((0, (-big,), -big), (big, (big,), big)))), True)

    def test_names_alike_or_falling(self):
        for names in ((0, 0), (3, 3), (2, 1), (0, 5, 5), (0, 5, 4), (5, 0, 6), (1, 2, 3, 4, 4)):
            house = (1, tuple((name, (0,), 0) for name in names))
            self.assertIs(is_house(house), False, names)

    def test_names_from_zero(self):
        for name, truth in ((0, True), (1, True), (-1, False), (-samples.BIG, False), (True, False), (False, False)):
            self.assertIs(is_house((1, ((name, (0,), 0),))), truth, name)

    def test_another_last_of_many(self):
        dice = random.Random(12)
        for d, many in ((1, 300), (2, 300), (3, 301), (4, 60), (4, 301)):
            d, things = samples.made_house(dice, d, many)
            name, place, worth = things[-1]
            for other in ((things[0][0], place, worth), (name, place + (1,), worth), (name, place, None), [name, place, worth]):
                self.assertIs(is_house((d, things[:-1] + (other,))), False)

    def test_places_of_another_d(self):
        for d, things in self.houses:
            for other in range(1, 5):
                self.assertIs(is_house((other, things)), other == d or things == ())

    def test_one_part_of_a_thing_otherwise(self):
        for house in self.houses:
            for at, thing in enumerate(house[1]):
                for other in samples.spoiled(thing):
                    self.assertIs(is_house(with_thing(house, at, other)), False)

    def test_d_otherwise(self):
        for d, things in self.houses:
            for other in samples.spoiled_leaf(d) + [0, -1, 5, 6, samples.BIG]:
                self.assertIs(is_house((other, things)), False)
        self.assertIs(is_house((5, ((0, (1, 2, 3, 4, 5), 0),))), False)
        self.assertIs(is_house((0, ((0, (), 0),))), False)

    def test_parts_more_or_less_and_lists(self):
        for house in self.houses:
            d, things = house
            for other in (
                (d,), (things,), (d, things, 0), (things, d), (d, things, things), [d, things],
                (d, list(things)), (d, None), (d, dict(enumerate(things))), (d, "things"), (d, things + (None,)),
                (d, set(things)), (d, frozenset(things)),
            ):
                self.assertIs(is_house(other), False, other)

    def test_things_of_other_kinds(self):
        for thing in samples.odd_things():
            self.assertIs(is_house(thing), False)
            self.assertIs(is_house((2, (thing,))), False)
            self.assertIs(is_house((thing, ())), thing is not True and type(thing) is int and 1 <= thing <= 4)


class ThingOf(unittest.TestCase):
    def test_each_name(self):
        dice = random.Random(13)
        for d in range(1, 5):
            house = samples.made_house(dice, d, 20)
            for thing in house[1]:
                self.assertEqual(thing_of(house, thing[0]), thing)

    def test_names_between_beyond_and_below(self):
        house = (1, ((2, (7,), 1), (5, (7,), 2), (6, (8,), 3)))
        for name in (3, 4, 0, 1, 7, 100, samples.BIG, -1, -2, -5, -samples.BIG):
            with self.assertRaises(NoThing) as caught:
                thing_of(house, name)
            self.assertIsInstance(caught.exception, BoxError)
            self.assertIsInstance(caught.exception, ValueError)
            self.assertNotIsInstance(caught.exception, (Taken, NoText, NoLine, NoNumber))

    def test_of_no_things(self):
        for name in (-1, 0, 1):
            self.assertRaises(NoThing, thing_of, (3, ()), name)


class Fitting(unittest.TestCase):
    def test_by_hand(self):
        house = (2, ((0, (1, 1), 4), (3, (2, 5), 4), (4, (-1, 9), 0), (8, (2, 5), -7)))
        for box, names in [
            (((None, None), (None, None)), (0, 3, 4, 8)),
            ((((2, True), None), (None, None)), (3, 8)),
            ((((2, False), None), (None, None)), ()),
            (((None, (2, False)), (None, None)), (0, 4)),
            (((None, None), ((1, False), (9, False))), (3, 8)),
            (((None, None), ((1, True), (9, True))), (0, 3, 4, 8)),
            ((((5, True), (1, True)), (None, None)), ()),
        ]:
            self.assertEqual(fitting(house, box), names, box)
            self.assertIsInstance(fitting(house, box), tuple)

    def test_of_no_things(self):
        for d in range(1, 5):
            self.assertEqual(fitting((d, ()), ((None, None),) * d), ())

    def test_just_the_names_whose_places_fit(self):
        dice = random.Random(14)
        for d in range(1, 5):
            for many in (1, 5, 60):
                house = samples.made_house(dice, d, many)
                for box in samples.boxes(dice, d, 40, range(-3, 4)):
                    just = tuple(name for name, place, worth in house[1] if samples.place_fits(box, place))
                    self.assertEqual(fitting(house, box), just)
                    self.assertEqual(fitting(house, box), just)


if __name__ == "__main__":
    unittest.main()
