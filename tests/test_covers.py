"""[18]: covers of trees, and the answers out of them."""

import copy
import random
import unittest

import samples
from boxlayers.answers import answer
from boxlayers.boxes import plain_box
from boxlayers.covers import by_cover, cover
from boxlayers.turnasks import taken_by_turns
from boxlayers.turns import turns


def parts_of(tree, plain, path=()):
    """The parts as the document tells them, left to right."""
    names, bounds, low, high = tree
    ways = samples.ways_out(bounds, plain)
    if ways:
        return [(path, "out") + ways[0]]
    if samples.is_within(bounds, plain):
        return [(path, "in")]
    return parts_of(low, plain, path + (0,)) + parts_of(high, plain, path + (1,))


def plainly(tree, box):
    return () if tree is None else tuple(parts_of(tree, plain_box(box)))


class ByHand(unittest.TestCase):
    house = (2, ((0, (4, 1), 10), (3, (5, 1), -2), (8, (0, 2), 7)))

    def test_parts(self):
        # Low has 0 and 8, in low low has 0.
        for box, told in [
            (samples.whole(2), (((), "in"),)),
            ((((0, True), (5, False)), (None, (2, True))), (((0,), "in"), ((1,), "out", 0, 1))),
            ((((4, True), None), (None, None)), (((0, 0), "in"), ((0, 1), "out", 0, 0), ((1,), "in"))),
            (((None, None), ((2, True), None)), (((0, 0), "out", 1, 0), ((0, 1), "in"), ((1,), "out", 1, 0))),
            (((None, None), (None, (1, True))), (((0, 0), "in"), ((0, 1), "out", 1, 1), ((1,), "in"))),
            # Out by both numbers: the least one.
            ((((9, True), None), ((9, True), None)), (((), "out", 0, 0),)),
            (((None, (-9, True)), ((9, True), None)), (((), "out", 0, 1),)),
            (((None, None), (None, (0, True))), (((), "out", 1, 1),)),
        ]:
            self.assertEqual(cover(self.house, turns(self.house), box), told, box)

    def test_the_empty_box(self):
        for places in (((0, 0), (5, 5)), ((-3, -3), (-1, -2)), ((1, 1), (2, 2)), ((0, 1), (1, 0))):
            house = (2, tuple((name, place, 0) for name, place in enumerate(places)))
            for span in (((1, True), (0, True)), ((7, False), (8, False)), ((3, True), (3, False))):
                for box in ((span, (None, None)), ((None, None), span), (span, span)):
                    self.assertEqual(cover(house, turns(house), box), (((), "out", 0, 0),))
                    self.assertEqual(by_cover(house, turns(house), box, (((), "out", 1, 1),), ("count", box)), 0)

    def test_of_none(self):
        for d in range(1, 5):
            house = (d, ())
            for box in samples.edge_boxes(d):
                self.assertEqual(cover(house, None, box), ())
                told = [by_cover(house, None, box, (), (word, box)) for word in ("count", "sum", "least", "most", "all")]
                self.assertEqual(told, [0, 0, None, None, ()])
                self.assertEqual(by_cover(house, None, box, (), ("first", box, 2)), ())

    def test_asks(self):
        box = (((0, True), (5, False)), (None, (2, True)))
        one = (((0,), "in"), ((1,), "out", 0, 1))
        other = (((1,), "out", 0, 1), ((0, 1), "in"), ((0, 0), "in"))
        for ask, told in [
            (("count", box), 2), (("sum", box), 17), (("least", box), 8), (("most", box), 0), (("all", box), (8, 0)),
            (("first", box, 0), ()), (("first", box, 1), (8,)), (("first", box, 9), (8, 0)),
        ]:
            for parts in (one, other):
                self.assertEqual(by_cover(self.house, turns(self.house), box, parts, ask), told, ask)


class Cover(unittest.TestCase):
    def test_as_the_document_tells(self):
        dice = random.Random(180)
        for house in samples.some_houses(dice):
            for tree in samples.both_trees(dice, house):
                for box in samples.asked_boxes(dice, house, 10):
                    told = cover(house, tree, box)
                    self.assertTrue(samples.is_like(told, plainly(tree, box)), (house, box))
                    self.assertTrue(samples.is_like(cover(house, tree, box), told))

    def test_each_thing_once_and_ins_as_taken(self):
        dice = random.Random(181)
        for house in samples.some_houses(dice, (1, 2, 6, 20)):
            for tree in samples.both_trees(dice, house):
                for box in samples.asked_boxes(dice, house, 5):
                    parts = cover(house, tree, box)
                    names = [name for part in parts for name in samples.at_path(tree, part[0])[0]]
                    self.assertEqual(sorted(names), list(samples.names_of(house[1])))
                    taken = tuple(samples.at_path(tree, part[0])[0] for part in parts if part[1] == "in")
                    self.assertEqual(taken, taken_by_turns(house, tree, box)[0])
                    self.assertEqual(list(parts), sorted(parts, key=lambda part: part[0]))

    def test_as_deep_as_there_are_things(self):
        dice = random.Random(182)
        house = samples.made_house(dice, 2, 300, range(-50, 51))
        for tree in (samples.thin_tree(house), samples.thin_tree(house, high=True)):
            for box in samples.asked_boxes(dice, house, 4):
                parts = cover(house, tree, box)
                self.assertEqual(parts, plainly(tree, box))
                self.assertEqual(by_cover(house, tree, box, parts, ("all", box)), answer(house, ("all", box)))


class ByCover(unittest.TestCase):
    def test_through_all_things(self):
        dice = random.Random(183)
        for house in samples.some_houses(dice):
            for tree in samples.both_trees(dice, house):
                for box in samples.asked_boxes(dice, house, 3):
                    parts = cover(house, tree, box)
                    covers = [parts, parts[::-1]] + [
                        samples.parted_further(dice, tree, parts, plain_box(box)) for each in range(2)]
                    for ask in samples.plain_asks(dice, box, len(house[1])):
                        for each in covers:
                            told = by_cover(house, tree, box, each, ask)
                            self.assertTrue(samples.is_like(told, answer(house, ask)), (house, ask, each))

    def test_handed_in_by_name(self):
        house = samples.made_house(random.Random(184), 2, 5)
        box, tree = samples.whole(2), turns(house)
        parts = cover(house=house, tree=tree, box=box)
        self.assertEqual(by_cover(house=house, tree=tree, box=box, cover=parts, ask=("count", box)), 5)

    def test_what_is_handed_in_stays_and_asked_again_the_same_is_told(self):
        dice = random.Random(185)
        for house in samples.some_houses(dice, (0, 1, 9)):
            tree = turns(house)
            for box in samples.asked_boxes(dice, house, 2):
                parts = cover(house, tree, box)
                asks = tuple(samples.plain_asks(dice, box, 3))
                before = copy.deepcopy((house, tree, box, parts, asks))
                first = [by_cover(house, tree, box, parts, ask) for ask in asks]
                self.assertEqual([by_cover(house, tree, box, parts, ask) for ask in asks], first)
                self.assertEqual(cover(house, tree, box), parts)
                self.assertTrue(samples.is_like((house, tree, box, parts, asks), before))
                self.assertTrue(samples.is_told(tuple(first)))


if __name__ == "__main__":
    unittest.main()
