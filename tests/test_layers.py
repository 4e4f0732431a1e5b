"""[10]: layers."""

import copy
import random
import unittest

import samples
from boxlayers.layers import is_layers, layers


def is_layer(house, thing, i=0):
    """Whether thing is a layer of i of some things, as the document tells it."""
    if type(thing) is not tuple or len(thing) != 4 or type(thing[0]) is not tuple or not thing[0]:
        return False
    names, low, high, inner = thing
    things = {each[0]: each for each in house[1]}
    if any(type(name) is not int or name not in things for name in names) or len(set(names)) < len(names):
        return False
    if names != samples.names_of(samples.in_order([things[name] for name in names], i)):
        return False
    if i + 1 == house[0]:
        inner_holds = inner is None
    else:
        inner_holds = is_layer(house, inner, i + 1) and sorted(inner[0]) == sorted(names)
    if len(names) == 1:
        return inner_holds and low is None and high is None
    return inner_holds and is_layer(house, low, i) and is_layer(house, high, i) and low[0] + high[0] == names


def is_layer_of_all(house, thing):
    if not house[1]:
        return thing is None
    return is_layer(house, thing) and len(thing[0]) == len(house[1])


def parted_elsewhere(dice, house):
    """Layers with low of one name, of all but one, of any number of names."""
    d, things = house
    for part_at in (lambda count: 1, lambda count: count - 1, lambda count: dice.randint(1, count - 1)):
        yield samples.parted_layers(d, things, part_at)


class ByHand(unittest.TestCase):
    one = (1, ((2, (7,), 0), (4, (3,), 0), (5, (7,), 0)))
    two = (2, ((0, (4, 1), 10), (3, (5, 1), -2), (8, (0, 2), 7)))

    def test_one_number(self):
        self.assertEqual(
            layers(self.one),
            ((4, 2, 5), ((4, 2), ((4,), None, None, None), ((2,), None, None, None), None), ((5,), None, None, None), None))

    def test_two_numbers(self):
        leaf = {name: ((name,), None, None, None) for name in (0, 3, 8)}
        point = {name: ((name,), None, None, leaf[name]) for name in (0, 3, 8)}
        low = ((8, 0), point[8], point[0], ((0, 8), leaf[0], leaf[8], None))
        inner = ((0, 3, 8), ((0, 3), leaf[0], leaf[3], None), leaf[8], None)
        self.assertEqual(layers(self.two), ((8, 0, 3), low, point[3], inner))

    def test_one_thing(self):
        thing = None
        for d in range(1, 5):
            thing = ((6,), None, None, thing)
            self.assertEqual(layers((d, ((6, (1, 2, 3, 4)[:d], 5),))), thing)

    def test_no_things(self):
        for d in range(1, 5):
            self.assertIsNone(layers((d, ())))
            self.assertIs(is_layers((d, ()), None), True)


class Layers(unittest.TestCase):
    def test_as_the_document_tells(self):
        for house in samples.some_houses(random.Random(60), (0, 1, 2, 3, 4, 5, 9, 17, 30)):
            told = layers(house)
            self.assertTrue(samples.is_like(told, samples.parted_layers(house[0], house[1])), house)
            self.assertTrue(samples.is_like(layers(house), told))

    def test_a_hundred_things_and_more(self):
        dice = random.Random(61)
        for d, many in ((1, 100), (1, 300), (2, 300), (4, 40)):
            house = samples.made_house(dice, d, many, range(-30, 31))
            self.assertTrue(samples.is_like(layers(house), samples.parted_layers(d, house[1])))
            self.assertIs(is_layers(house, layers(house)), True)

    def test_worths_change_nothing(self):
        dice = random.Random(62)
        for house in samples.some_houses(dice, (2, 9)):
            other = (house[0], tuple((name, place, dice.randint(-9, 9)) for name, place, worth in house[1]))
            self.assertEqual(layers(other), layers(house))
            self.assertIs(is_layers(other, layers(house)), True)


class IsLayers(unittest.TestCase):
    def test_what_layers_tells(self):
        for house in samples.some_houses(random.Random(63)):
            self.assertIs(is_layers(house, layers(house)), True)
            self.assertIs(is_layers(house, None), house[1] == ())

    def test_parted_elsewhere(self):
        dice = random.Random(64)
        for house in samples.some_houses(dice, (1, 2, 3, 6, 13)):
            for tree in parted_elsewhere(dice, house):
                self.assertIs(is_layers(house, tree), True)

    def test_as_deep_as_there_are_things(self):
        for many in (100, 300):
            house = samples.made_house(random.Random(65), 1, many)
            for part_at in (lambda count: 1, lambda count: count - 1):
                self.assertIs(is_layers(house, samples.parted_layers(1, house[1], part_at)), True)

    def test_the_tree_of_another_house(self):
        dice = random.Random(66)
        for d in range(1, 5):
            for many in (1, 2, 5, 9):
                things = samples.made_house(dice, d, many, range(-4, 5))[1]
                moved = things[:-1] + ((things[-1][0], (99,) * d, 0),)
                renamed = things[:-1] + ((things[-1][0] + 1, things[-1][1], 0),)
                mirrored = tuple((name, tuple(-number for number in place), 0) for name, place, worth in things)
                more = things + ((99, (0,) * d, 0),)
                for other in (moved, renamed, mirrored, more, things[1:], things[:-1], ()):
                    tree = layers((d, other))
                    self.assertIs(is_layers((d, things), tree), is_layer_of_all((d, things), tree), (things, other))
                for other in (renamed, more, things[1:], things[:-1], ()):
                    self.assertIs(is_layers((d, things), layers((d, other))), False)

    def test_another_number_first(self):
        house = (2, ((0, (1, 9), 0), (1, (2, 8), 0), (2, (3, 7), 0)))
        swapped = (2, tuple((name, place[::-1], worth) for name, place, worth in house[1]))
        self.assertIs(is_layers(house, layers(swapped)), False)
        self.assertIs(is_layers(house, layers(house)[3]), False)
        names, low, high, inner = layers(house)
        self.assertIs(is_layers(house, inner[:3] + (layers(house)[:3] + (None,),)), False)

    def test_of_more_and_of_fewer_numbers(self):
        for d in range(1, 4):
            house = samples.made_house(random.Random(67), d, 5)
            wider = (d + 1, tuple((name, place + (0,), worth) for name, place, worth in house[1]))
            self.assertIs(is_layers(house, layers(wider)), False)
            self.assertIs(is_layers(wider, layers(house)), False)

    def test_a_layer_that_is_too_small_or_too_deep(self):
        house = (1, ((0, (1,), 0), (1, (2,), 0)))
        names, low, high, inner = layers(house)
        for tree in [
            low, high, (names, None, None, None), (names, low, None, None), (names, None, high, None),
            (names, low, low, None), (names, high, low, None), (names, low, high, low), (names, low, high, layers(house)),
            (names, None, layers(house), None), (names, layers(house), None, None), (names, ((), None, None, None), high, None),
            (names, ((), None, None, None), layers(house), None), ((), None, None, None), (names[::-1], high, low, None),
            (names, low + (None,), high, None), ((0,), None, None, None), (names, (names[:1], low, high, None), high, None),
        ]:
            self.assertIs(is_layers(house, tree), False, tree)

    def test_one_part_otherwise(self):
        dice = random.Random(68)
        for d, many in ((1, 1), (1, 2), (1, 6), (2, 1), (2, 3), (3, 2), (4, 1), (4, 2)):
            for numbers in (range(3, 4), range(-9, 10)):
                house = samples.made_house(dice, d, many, numbers)
                for tree in [layers(house)] + list(parted_elsewhere(dice, house)):
                    for other in samples.spoiled(tree):
                        self.assertIs(is_layers(house, other), False)
                    for other in samples.put_otherwise(tree, samples.changes):
                        self.assertIs(is_layers(house, other), samples.is_like(other, tree))

    def test_another_layer_within(self):
        dice = random.Random(69)
        seen = []
        for d, many in ((1, 5), (2, 4), (3, 3)):
            house = samples.made_house(dice, d, many, range(0, 3))
            tree = samples.parted_layers(d, house[1], lambda count: dice.randint(1, count - 1))
            within = self.layers_within(tree)
            for other in samples.put_otherwise(tree, lambda part: within if type(part) is tuple and len(part) == 4 else []):
                seen.append(is_layers(house, other))
                self.assertIs(seen[-1], is_layer_of_all(house, other))
        self.assertEqual(set(seen), {True, False})

    def layers_within(self, tree):
        found = [tree]
        for each in found:
            found += [part for part in each[1:] if part is not None]
        return found

    def test_two_parts_otherwise(self):
        dice = random.Random(70)
        for d, many in ((1, 4), (2, 3), (3, 2)):
            house = samples.made_house(dice, d, many)
            once = samples.put_otherwise(layers(house), samples.changes)
            for each in range(60):
                for other in dice.sample(samples.put_otherwise(dice.choice(once), samples.changes), 5):
                    self.assertIs(is_layers(house, other), is_layer_of_all(house, other))

    def test_things_of_other_kinds(self):
        for d in range(1, 5):
            for many in (0, 1, 2, 4):
                house = samples.made_house(random.Random(71), d, many)
                for thing in samples.odd_things():
                    self.assertIs(is_layers(house, thing), thing is None and many == 0)
                    for other in ((thing,), (thing,) * 4, [thing] * 4, ((), thing, thing, thing)):
                        self.assertIs(is_layers(house, other), False)

    def test_many_within_one_another(self):
        # Each tuple holds the one before twice, so that going through all of it would never end.
        for d in (1, 3):
            house = samples.made_house(random.Random(72), d, 4)
            thing = None
            for level in range(39):
                thing = (thing, thing, thing, thing)
            self.assertIs(is_layers(house, thing), False)
            names = layers(house)[0]
            self.assertIs(is_layers(house, (names, thing, thing, thing)), False)
            thing = (names, None, None, None)
            for level in range(39):
                thing = (names, thing, thing, thing)
            self.assertIs(is_layers(house, thing), False)

    def test_what_is_handed_in_stays(self):
        house = samples.made_house(random.Random(73), 2, 4)
        names, low, high, inner = layers(house)
        for thing in ([names, low, high, inner], (list(names), low, high, inner), (names, list(low), {1: [high]}, inner)):
            before = copy.deepcopy((house, thing))
            self.assertIs(is_layers(house, thing), False)
            self.assertIs(is_layers(house, thing), False)
            self.assertEqual((house, thing), before)


if __name__ == "__main__":
    unittest.main()
