"""[16], [17]: keys of trees, and names drawn by them."""

import copy
import itertools
import random
import unittest

import samples
from boxlayers.answers import answer
from boxlayers.boxes import plain_box
from boxlayers.drawing import drawn, key_of
from boxlayers.turns import turns


def plainly(house, tree, box, kind, k):
    """(names, looks, waiting) as the document tells it."""
    told, looks, waiting, apart = samples.drawn_plainly(house, tree, plain_box(box), kind, k)
    return (tuple(tree[0][0] for path, tree in told), looks, tuple(tree[0] for path, tree in waiting))


def some_places(dice, house):
    """Places within the bounds, at them, beside them, far off."""
    d, things = house
    sides = [sorted({number + more for number in (first, last) for more in (-1, 0, 1)})
             for first, last in samples.bounds_of(things)]
    places = [dice.choice(things)[1]] + [tuple(dice.choice(side) for side in sides) for each in range(4)]
    places += [tuple(dice.randint(side[0], side[-1]) for side in sides), (samples.BIG,) * d, (-samples.BIG,) * d]
    return places


def some_kinds(dice, house):
    places = some_places(dice, house) if house[1] else [(0,) * house[0]]
    return [("best",)] + [("near", place) for place in places]


class KeyByHand(unittest.TestCase):
    house = (2, ((4, (1, 5), 3), (6, (3, 9), 8), (7, (2, 7), -2)))
    tree = ((4, 6, 7), ((1, 3), (5, 9)))

    def test_near(self):
        tree = turns(self.house)
        self.assertEqual(tree[:2], self.tree)
        for place, far in [
            ((2, 6), 0), ((1, 5), 0), ((3, 9), 0), ((1, 9), 0), ((0, 5), 1), ((4, 7), 1), ((2, 10), 1), ((2, 4), 1),
            ((0, 4), 2), ((5, 12), 5), ((-10, 0), 16), ((-samples.BIG, samples.BIG), 2 * samples.BIG - 8),
        ]:
            self.assertEqual(key_of(self.house, tree, ("near", place)), (far, 4), place)

    def test_best(self):
        tree = turns(self.house)
        keys = {each[0]: key_of(self.house, each, ("best",)) for each in samples.trees_within(tree)}
        self.assertEqual(keys, {(4, 6, 7): (-8, 4), (4, 7): (-3, 4), (4,): (-3, 4), (7,): (2, 7), (6,): (-8, 6)})


class KeyOf(unittest.TestCase):
    def test_each_tree_within(self):
        dice = random.Random(130)
        for house in samples.some_houses(dice, (1, 2, 3, 6, 13)):
            for tree in samples.both_trees(dice, house):
                kinds = some_kinds(dice, house)
                for each in samples.trees_within(tree):
                    for kind in kinds:
                        told = key_of(house, each, kind)
                        self.assertTrue(samples.is_like(told, samples.key_plainly(house, each, kind)), (house, each, kind))
                        self.assertEqual(key_of(house, each, kind), told)

    def test_steps_are_those_to_the_nearest_place_of_the_bounds(self):
        dice = random.Random(131)
        for d in (1, 2, 3):
            house = samples.made_house(dice, d, 4, range(-2, 2))
            for tree in samples.trees_within(samples.any_tree(dice, house)):
                inside = list(itertools.product(*[range(first, last + 1) for first, last in tree[1]]))
                for place in samples.window(d, -4, 3):
                    far = min(sum(abs(a - b) for a, b in zip(place, other)) for other in inside)
                    self.assertEqual(key_of(house, tree, ("near", place))[0], far)

    def test_no_thing_of_a_tree_comes_ahead_of_its_key(self):
        dice = random.Random(132)
        for house in samples.some_houses(dice, (2, 9)):
            for kind in some_kinds(dice, house):
                for tree in samples.trees_within(samples.any_tree(dice, house)):
                    leaves = [each for each in samples.trees_within(tree) if len(each[0]) == 1]
                    self.assertLessEqual(
                        key_of(house, tree, kind), min(key_of(house, leaf, kind) for leaf in leaves))


class DrawnByHand(unittest.TestCase):
    house = (1, ((0, (1,), 5), (1, (4,), 5), (2, (6,), 9), (3, (9,), -1)))

    def test_best(self):
        tree = turns(self.house)
        whole = samples.whole(1)
        for box, k, told in [
            (whole, 0, ((), 0, ())),
            (whole, 1, ((2,), 3, ((0, 1), (3,)))),
            (whole, 2, ((2, 0), 5, ((1,), (3,)))),
            (whole, 3, ((2, 0, 1), 6, ((3,),))),
            (whole, 4, ((2, 0, 1, 3), 7, ())),
            (whole, 9, ((2, 0, 1, 3), 7, ())),
            # What lies apart never waits; what is cut waits with all its worths.
            (((None, (5, True)),), 1, ((0,), 3, ((1,),))),
            (((None, (6, False)),), 9, ((0, 1), 4, ())),
            ((((7, True), None),), 1, ((3,), 3, ())),
            ((((10, True), None),), 1, ((), 0, ())),
            ((((6, True), (5, True)),), 1, ((), 0, ())),
        ]:
            self.assertEqual(drawn(self.house, tree, box, ("best",), k), told, (box, k))

    def test_near(self):
        tree = turns(self.house)
        whole = samples.whole(1)
        for place, k, told in [
            ((5,), 0, ((), 0, ())),
            # From 5 low and high are one step off, low has the lesser name; 4 is one step off, and 1 comes ahead of 2.
            ((5,), 1, ((1,), 3, ((2, 3), (0,)))),
            ((5,), 2, ((1, 2), 5, ((0,), (3,)))),
            ((-9,), 2, ((0, 1), 4, ((2, 3),))),
            ((9,), 1, ((3,), 3, ((2,), (0, 1)))),
        ]:
            self.assertEqual(drawn(self.house, tree, whole, ("near", place), k), told, (place, k))


class Drawn(unittest.TestCase):
    def test_as_the_document_tells(self):
        dice = random.Random(133)
        for house in samples.some_houses(dice, (0, 1, 2, 3, 6, 13)):
            many = len(house[1])
            for tree in samples.both_trees(dice, house):
                for box in samples.asked_boxes(dice, house, 3):
                    for kind in some_kinds(dice, house)[::2]:
                        for k in {0, 1, dice.randint(0, many), len(samples.things_in(house, box)), many + 2}:
                            told = drawn(house, tree, box, kind, k)
                            self.assertTrue(samples.is_like(told, plainly(house, tree, box, kind, k)), (house, box, k))

    def test_names_are_those_of_near_and_best(self):
        dice = random.Random(134)
        for house in samples.some_houses(dice, (0, 1, 2, 7, 20)):
            for tree in samples.both_trees(dice, house):
                for box in samples.asked_boxes(dice, house, 2):
                    for ask in samples.drawn_asks(dice, house, box):
                        names, looks, waiting = drawn(house, tree, box, samples.kind_of(ask), ask[-1])
                        self.assertEqual(names, answer(house, ask), (house, ask))

    def test_more_things_and_thin_trees(self):
        dice = random.Random(135)
        for d, many in ((1, 60), (2, 40), (4, 30)):
            house = samples.made_house(dice, d, many, range(-20, 21))
            for tree in (turns(house), samples.thin_tree(house), samples.thin_tree(house, high=True)):
                for box in samples.asked_boxes(dice, house, 1):
                    for kind in (("best",), ("near", (3,) * d)):
                        for k in (1, 7, many):
                            self.assertEqual(drawn(house, tree, box, kind, k), plainly(house, tree, box, kind, k))

    def test_as_many_things_as_told(self):
        dice = random.Random(140)
        for d, many in ((1, 300), (3, 300), (4, 60)):
            house = samples.made_house(dice, d, many, range(-50, 51))
            for tree in (turns(house), samples.thin_tree(house), samples.thin_tree(house, high=True)):
                for box in samples.asked_boxes(dice, house, 2):
                    for ask in (("best", box, 9), ("near", box, (7,) * d, many)):
                        self.assertEqual(drawn(house, tree, box, samples.kind_of(ask), ask[-1])[0], answer(house, ask))

    def test_like_ones_by_rising_names_whatever_the_tree(self):
        dice = random.Random(136)
        for d in range(1, 5):
            house = (d, tuple((name, (name % 2,) * d, 7) for name in range(12)))
            for each in range(10):
                tree = samples.any_tree(dice, house)
                for k in range(0, 15):
                    self.assertEqual(drawn(house, tree, samples.whole(d), ("best",), k)[0], tuple(range(12))[:k])
                    near = tuple(range(0, 12, 2)) + tuple(range(1, 12, 2))
                    self.assertEqual(drawn(house, tree, samples.whole(d), ("near", (0,) * d), k)[0], near[:k])

    def test_names_and_what_waits_hold_all_that_fit(self):
        dice = random.Random(137)
        for house in samples.some_houses(dice, (1, 6, 13)):
            tree = samples.any_tree(dice, house)
            for box in samples.asked_boxes(dice, house, 3):
                fit = set(samples.names_of(samples.things_in(house, box)))
                for kind in some_kinds(dice, house)[:3]:
                    for k in (1, 2, 5):
                        names, looks, waiting = drawn(house, tree, box, kind, k)
                        held = list(names) + [name for each in waiting for name in each]
                        self.assertEqual(len(held), len(set(held)))
                        self.assertTrue(fit <= set(held))

    def test_of_k_0_and_of_none(self):
        dice = random.Random(138)
        for house in samples.some_houses(dice, (0, 1, 5)):
            for box in samples.asked_boxes(dice, house, 2):
                for kind in some_kinds(dice, house):
                    self.assertEqual(drawn(house, turns(house), box, kind, 0), ((), 0, ()))
                    self.assertEqual(drawn((house[0], ()), None, box, kind, 3), ((), 0, ()))

    def test_what_is_handed_in_stays_and_asked_again_the_same_is_told(self):
        dice = random.Random(139)
        for house in samples.some_houses(dice, (0, 1, 9)):
            tree = turns(house)
            box = samples.asked_boxes(dice, house, 1)[-1]
            kinds = tuple(some_kinds(dice, house))
            before = copy.deepcopy((house, tree, box, kinds))
            first = [drawn(house, tree, box, kind, 3) for kind in kinds]
            self.assertEqual([drawn(house, tree, box, kind, 3) for kind in kinds], first)
            self.assertTrue(samples.is_like((house, tree, box, kinds), before))
            self.assertTrue(samples.is_told(tuple(first)))


if __name__ == "__main__":
    unittest.main()
