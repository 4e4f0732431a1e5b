"""[11]: boxes asked of layers; with [3] (a), (b), answers as by going through all things, and never more looks."""

import copy
import random
import unittest

import samples
from boxlayers.answers import answer
from boxlayers.boxes import plain_box
from boxlayers.layerasks import by_layers, most_layer_looks, taken_by_layers
from boxlayers.layers import layers


def asked(house, layer, plain, i=0):
    """(taken, looks) of a layer of i, as the document tells it."""
    names, low, high, inner = layer
    least, greatest = plain[i]
    numbers = [thing[1][i] for thing in house[1] if thing[0] in names]
    below = [least is not None and number < least for number in numbers]
    above = [greatest is not None and number > greatest for number in numbers]
    if all(below) or all(above):
        return [], 1
    if not any(below) and not any(above):
        taken, looks = ([names], 0) if inner is None else asked(house, inner, plain, i + 1)
        return taken, looks + 1
    one, one_looks = asked(house, low, plain, i)
    other, other_looks = asked(house, high, plain, i)
    return one + other, 1 + one_looks + other_looks


def plainly(house, tree, box):
    taken, looks = ([], 0) if tree is None else asked(house, tree, plain_box(box))
    return (tuple(taken), looks)


def trees(dice, house):
    """What layers tells, and layers parted elsewhere."""
    d, things = house
    parted = [samples.parted_layers(d, things, lambda count: dice.randint(1, count - 1)) for each in range(2)]
    return [layers(house)] + parted


def halved_times(n, times):
    return n if times == 0 else samples.halved_up(halved_times(n, times - 1))


def most_plainly(n, d):
    if n == 0:
        return 0
    h = samples.halvings(n)
    a = 1 if h == 0 else 4 * h - 1
    if d == 1:
        return a
    twice = 2 * sum(most_plainly(halved_times(n, times), d - 1) for times in range(1, h + 1))
    return a + max(most_plainly(n, d - 1), twice)


class ByHand(unittest.TestCase):
    house = (1, ((0, (1,), 5), (1, (2,), -1), (2, (2,), 7), (3, (4,), 0), (4, (9,), 3)))
    two = (2, ((0, (4, 1), 10), (3, (5, 1), -2), (8, (0, 2), 7)))

    def test_one_number(self):
        tree = layers(self.house)
        self.assertEqual((tree[0], tree[1][0], tree[2][0]), ((0, 1, 2, 3, 4), (0, 1, 2), (3, 4)))
        for span, told in [
            ((None, None), (((0, 1, 2, 3, 4),), 1)),
            (((2, True), None), (((1,), (2,), (3, 4)), 7)),
            (((2, False), None), (((3, 4),), 3)),
            ((None, (2, True)), (((0, 1, 2),), 3)),
            ((None, (2, False)), (((0,),), 7)),
            (((2, True), (4, True)), (((1,), (2,), (3,)), 9)),
            (((10, True), None), ((), 1)),
            ((None, (1, False)), ((), 1)),
            # The empty one is (1, 0): all numbers are above 0.
            (((5, True), (3, True)), ((), 1)),
        ]:
            self.assertEqual(taken_by_layers(self.house, tree, (span,)), told, span)

    def test_the_empty_box_cuts_what_has_numbers_up_to_0_and_above(self):
        house = (1, ((0, (-3,), 0), (1, (0,), 0), (2, (1,), 0), (3, (2,), 0)))
        box = (((1, True), (0, True)),)
        self.assertEqual(taken_by_layers(house, layers(house), box), ((), 3))
        self.assertEqual(taken_by_layers(house, samples.parted_layers(1, house[1], lambda count: 1), box), ((), 5))

    def test_two_numbers(self):
        tree = layers(self.two)
        for box, told in [
            (samples.whole(2), (((0, 3, 8),), 2)),
            ((((0, True), (5, False)), (None, (2, True))), (((0, 8),), 4)),
            ((((4, True), None), ((2, False), None)), ((), 7)),
            ((((4, True), None), (None, (1, True))), (((0,), (3,)), 7)),
            (((None, None), (None, (1, True))), (((0, 3),), 4)),
        ]:
            self.assertEqual(taken_by_layers(self.two, tree, box), told, box)

    def test_asks(self):
        box = (((0, True), (5, False)), (None, (2, True)))
        for ask, told in [
            (("count", box), 2), (("sum", box), 17), (("least", box), 8), (("most", box), 0), (("all", box), (8, 0)),
            (("first", box, 0), ()), (("first", box, 1), (8,)), (("first", box, 9), (8, 0)),
        ]:
            self.assertEqual(by_layers(self.two, layers(self.two), ask), (told, 4), ask)

    def test_of_none(self):
        for d in range(1, 5):
            for box in samples.edge_boxes(d):
                self.assertEqual(taken_by_layers((d, ()), None, box), ((), 0))
                told = [by_layers((d, ()), None, (word, box)) for word in ("count", "sum", "least", "most", "all")]
                self.assertEqual(told, [(0, 0), (0, 0), (None, 0), (None, 0), ((), 0)])
                self.assertEqual(by_layers((d, ()), None, ("first", box, 2)), ((), 0))

    def test_most_looks(self):
        self.assertEqual([most_layer_looks(n, 1) for n in (0, 1, 2, 3, 4, 5, 8, 9, 300)], [0, 1, 3, 7, 7, 11, 11, 15, 35])
        self.assertEqual([most_layer_looks(n, 2) for n in (0, 1, 2, 3, 4)], [0, 2, 6, 15, 15])
        self.assertEqual([most_layer_looks(n, 3) for n in (0, 1, 2, 3)], [0, 3, 9, 23])
        self.assertEqual([most_layer_looks(n, 4) for n in (0, 1, 2)], [0, 4, 12])


class TakenByLayers(unittest.TestCase):
    def test_as_the_document_tells(self):
        dice = random.Random(80)
        for house in samples.some_houses(dice):
            for tree in trees(dice, house):
                for box in samples.asked_boxes(dice, house, 6):
                    told = taken_by_layers(house, tree, box)
                    self.assertTrue(samples.is_like(told, plainly(house, tree, box)), (house, box))
                    self.assertTrue(samples.is_like(taken_by_layers(house, tree, box), told))

    def test_all_boxes_of_a_small_house(self):
        dice = random.Random(81)
        house = samples.made_house(dice, 1, 6, range(-2, 3))
        for tree in trees(dice, house):
            for span in samples.spans(range(-4, 4)):
                self.assertEqual(taken_by_layers(house, tree, (span,)), plainly(house, tree, (span,)))

    def test_just_those_that_fit_each_once(self):
        dice = random.Random(82)
        for house in samples.some_houses(dice, (1, 2, 6, 20)):
            for tree in trees(dice, house):
                for box in samples.asked_boxes(dice, house, 5):
                    taken, looks = taken_by_layers(house, tree, box)
                    names = sorted(name for row in taken for name in row)
                    self.assertEqual(names, [thing[0] for thing in samples.things_in(house, box)])

    def test_as_deep_as_there_are_things(self):
        dice = random.Random(83)
        house = samples.made_house(dice, 1, 300, range(-500, 500))
        for part_at in (lambda count: 1, lambda count: count - 1):
            tree = samples.parted_layers(1, house[1], part_at)
            for box in samples.asked_boxes(dice, house, 20):
                taken, looks = taken_by_layers(house, tree, box)
                self.assertEqual(sorted(name for row in taken for name in row), list(
                    samples.names_of(samples.things_in(house, box))))
                self.assertEqual(by_layers(house, tree, ("all", box)), (answer(house, ("all", box)), looks))


class ByLayers(unittest.TestCase):
    def test_through_all_things(self):
        dice = random.Random(84)
        for house in samples.some_houses(dice):
            for tree in trees(dice, house)[:2]:
                for box in samples.asked_boxes(dice, house, 4):
                    looks = plainly(house, tree, box)[1]
                    for ask in samples.plain_asks(dice, box, len(house[1])):
                        told = by_layers(house, tree, ask)
                        self.assertTrue(samples.is_like(told, (answer(house, ask), looks)), (house, ask))

    def test_what_is_handed_in_stays_and_asked_again_the_same_is_told(self):
        dice = random.Random(85)
        for house in samples.some_houses(dice, (0, 1, 9)):
            tree = layers(house)
            asks = [ask for box in samples.asked_boxes(dice, house, 3) for ask in samples.plain_asks(dice, box, 3)]
            before = copy.deepcopy((house, tree, asks))
            first = [by_layers(house, tree, ask) for ask in asks]
            self.assertEqual([by_layers(house, tree, ask) for ask in asks], first)
            self.assertTrue(samples.is_like(((house, tree) + tuple(asks)), before[:2] + tuple(before[2])))
            self.assertTrue(samples.is_told(tuple(first)))


class MostLayerLooks(unittest.TestCase):
    def test_as_the_document_tells(self):
        for d in range(1, 5):
            for n in samples.powers_and_beside(60 if d == 4 else 300):
                self.assertTrue(samples.is_like(most_layer_looks(n, d), most_plainly(n, d)), (n, d))

    def test_never_more_looks(self):
        dice = random.Random(86)
        for house in samples.some_houses(dice, (1, 2, 3, 4, 5, 8, 9, 16, 17, 31)):
            tree = layers(house)
            most = most_layer_looks(len(house[1]), house[0])
            for box in samples.asked_boxes(dice, house, 15):
                self.assertLessEqual(taken_by_layers(house, tree, box)[1], most)

    def test_never_more_looks_of_many_things(self):
        dice = random.Random(87)
        for d, many in ((1, 300), (2, 129), (3, 64), (4, 20)):
            house = samples.made_house(dice, d, many, range(-40, 41))
            tree = layers(house)
            for box in samples.asked_boxes(dice, house, 60):
                told = taken_by_layers(house, tree, box)
                self.assertEqual(told, plainly(house, tree, box))
                self.assertLessEqual(told[1], most_layer_looks(many, d))

    def test_one_number_comes_to_the_most(self):
        for n in (1, 2, 4, 8, 16, 32):
            house = (1, tuple((name, (name,), 0) for name in range(n)))
            boxes = [(((low, True), (high, True)),) for low in range(n) for high in range(low, n)]
            most = max(taken_by_layers(house, layers(house), box)[1] for box in boxes)
            self.assertLessEqual(most, most_layer_looks(n, 1))
            self.assertGreaterEqual(most, most_layer_looks(n, 1) - 4)


if __name__ == "__main__":
    unittest.main()
