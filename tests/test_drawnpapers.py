"""[19]: papers of drawn names."""

import copy
import random
import unittest

import samples
from boxlayers.answers import answer
from boxlayers.boxes import plain_box
from boxlayers.drawing import drawn
from boxlayers.drawnpapers import drawn_paper
from boxlayers.turns import turns


def plainly(house, tree, box, kind, k):
    """(names, parts) as the document tells it."""
    plain = plain_box(box)
    told, looks, waiting, apart = samples.drawn_plainly(house, tree, plain, kind, k)
    if k == 0 and tree is not None:
        top = ((), tree)
        waiting, apart = ([], [top]) if samples.ways_out(tree[1], plain) else ([top], [])
    parts = [(path, "in") for path, each in told] + [(path, "far") for path, each in waiting]
    parts += [(path, "out") + samples.ways_out(each[1], plain)[0] for path, each in apart]
    return (tuple(each[0][0] for path, each in told), tuple(sorted(parts, key=lambda part: part[0])))


class ByHand(unittest.TestCase):
    # Low has 0 and 1, high 2 and 3.
    house = (1, ((0, (1,), 5), (1, (4,), 5), (2, (6,), 9), (3, (9,), -1)))

    def test_best(self):
        tree = turns(self.house)
        whole = samples.whole(1)
        for box, k, told in [
            (whole, 0, ((), (((), "far"),))),
            (whole, 1, ((2,), (((0,), "far"), ((1, 0), "in"), ((1, 1), "far")))),
            (whole, 2, ((2, 0), (((0, 0), "in"), ((0, 1), "far"), ((1, 0), "in"), ((1, 1), "far")))),
            (whole, 4, ((2, 0, 1, 3), (((0, 0), "in"), ((0, 1), "in"), ((1, 0), "in"), ((1, 1), "in")))),
            (whole, 9, ((2, 0, 1, 3), (((0, 0), "in"), ((0, 1), "in"), ((1, 0), "in"), ((1, 1), "in")))),
            (((None, (5, True)),), 1, ((0,), (((0, 0), "in"), ((0, 1), "far"), ((1,), "out", 0, 1)))),
            (((None, (5, True)),), 9, ((0, 1), (((0, 0), "in"), ((0, 1), "in"), ((1,), "out", 0, 1)))),
            ((((7, True), None),), 1, ((3,), (((0,), "out", 0, 0), ((1, 0), "out", 0, 0), ((1, 1), "in")))),
            ((((10, True), None),), 0, ((), (((), "out", 0, 0),))),
            ((((10, True), None),), 2, ((), (((), "out", 0, 0),))),
            (((None, (0, True)),), 2, ((), (((), "out", 0, 1),))),
            ((((6, True), (5, True)),), 0, ((), (((), "out", 0, 0),))),
            ((((6, True), (5, True)),), 3, ((), (((), "out", 0, 0),))),
        ]:
            self.assertEqual(drawn_paper(self.house, tree, box, ("best",), k), told, (box, k))

    def test_near(self):
        tree = turns(self.house)
        whole = samples.whole(1)
        for place, k, told in [
            ((5,), 0, ((), (((), "far"),))),
            ((5,), 1, ((1,), (((0, 0), "far"), ((0, 1), "in"), ((1,), "far")))),
            ((-9,), 2, ((0, 1), (((0, 0), "in"), ((0, 1), "in"), ((1,), "far")))),
            ((9,), 1, ((3,), (((0,), "far"), ((1, 0), "far"), ((1, 1), "in")))),
        ]:
            self.assertEqual(drawn_paper(self.house, tree, whole, ("near", place), k), told, (place, k))

    def test_outs_by_the_least_number_and_side(self):
        house = (2, ((0, (0, 0), 1), (1, (5, 5), 2)))
        for box, parts in [
            ((((4, True), None), ((4, True), None)), (((0,), "out", 0, 0), ((1,), "in"))),
            (((None, (1, True)), (None, (1, True))), (((0,), "in"), ((1,), "out", 0, 1))),
            (((None, None), (None, (1, True))), (((0,), "in"), ((1,), "out", 1, 1))),
            ((((9, True), None), (None, (-9, True))), (((), "out", 0, 0),)),
        ]:
            for kind in (("best",), ("near", (7, 7))):
                self.assertEqual(drawn_paper(house, turns(house), box, kind, 2)[1], parts)

    def test_of_none(self):
        for d in range(1, 5):
            for box in samples.edge_boxes(d):
                for k in (0, 1, 5):
                    for kind in (("best",), ("near", (0,) * d)):
                        self.assertEqual(drawn_paper((d, ()), None, box, kind, k), ((), ()))


class DrawnPaper(unittest.TestCase):
    def test_as_the_document_tells(self):
        dice = random.Random(190)
        for house in samples.some_houses(dice, (0, 1, 2, 3, 6, 13)):
            for tree in samples.both_trees(dice, house):
                for box in samples.asked_boxes(dice, house, 3):
                    for ask in samples.drawn_asks(dice, house, box):
                        kind, k = samples.kind_of(ask), ask[-1]
                        told = drawn_paper(house, tree, box, kind, k)
                        self.assertTrue(samples.is_like(told, plainly(house, tree, box, kind, k)), (house, box, kind, k))

    def test_as_many_as_fit_and_one_more_or_less(self):
        dice = random.Random(191)
        for house in samples.some_houses(dice, (2, 6, 20)):
            tree = turns(house)
            for box in samples.asked_boxes(dice, house, 2):
                fit = len(samples.things_in(house, box))
                for k in {max(fit - 1, 0), fit, fit + 1}:
                    for kind in (("best",), ("near", house[1][0][1])):
                        told = drawn_paper(house, tree, box, kind, k)
                        self.assertEqual(told, plainly(house, tree, box, kind, k))
                        self.assertEqual(len(told[0]), min(fit, k))

    def test_names_and_what_waits_are_those_of_drawn(self):
        dice = random.Random(192)
        for house in samples.some_houses(dice, (1, 2, 7, 20)):
            for tree in samples.both_trees(dice, house):
                for box in samples.asked_boxes(dice, house, 2):
                    for ask in samples.drawn_asks(dice, house, box):
                        kind, k = samples.kind_of(ask), ask[-1]
                        names, looks, waiting = drawn(house, tree, box, kind, k)
                        told, parts = drawn_paper(house, tree, box, kind, k)
                        self.assertEqual(told, names)
                        self.assertEqual(told, answer(house, ask))
                        rows = {word: [samples.at_path(tree, part[0])[0] for part in parts if part[1] == word]
                                for word in ("in", "far")}
                        self.assertEqual(sorted(rows["in"]), sorted((name,) for name in names))
                        if k > 0:
                            self.assertEqual(sorted(rows["far"]), sorted(waiting))

    def test_each_thing_once_left_to_right(self):
        dice = random.Random(193)
        for house in samples.some_houses(dice, (1, 2, 6, 20)):
            for tree in samples.both_trees(dice, house):
                for box in samples.asked_boxes(dice, house, 2):
                    for ask in samples.drawn_asks(dice, house, box):
                        names, parts = drawn_paper(house, tree, box, samples.kind_of(ask), ask[-1])
                        held = [name for part in parts for name in samples.at_path(tree, part[0])[0]]
                        self.assertEqual(sorted(held), list(samples.names_of(house[1])))
                        self.assertEqual(list(parts), sorted(parts, key=lambda part: part[0]))

    def test_as_many_things_as_told_and_thin_trees(self):
        dice = random.Random(194)
        for d, many in ((1, 300), (2, 120), (4, 60)):
            house = samples.made_house(dice, d, many, range(-50, 51))
            for tree in (turns(house), samples.thin_tree(house), samples.thin_tree(house, high=True)):
                for box in samples.asked_boxes(dice, house, 1)[::2]:
                    for kind, k in ((("best",), 7), (("near", (3,) * d), 20), (("best",), 0)):
                        told = drawn_paper(house, tree, box, kind, k)
                        self.assertEqual(told, plainly(house, tree, box, kind, k))

    def test_what_is_handed_in_stays_and_asked_again_the_same_is_told(self):
        dice = random.Random(195)
        for house in samples.some_houses(dice, (0, 1, 9)):
            tree = turns(house)
            box = samples.asked_boxes(dice, house, 1)[-1]
            before = copy.deepcopy((house, tree, box))
            for kind in (("best",), ("near", (1,) * house[0])):
                first = drawn_paper(house=house, tree=tree, box=box, kind=kind, k=3)
                self.assertEqual(drawn_paper(house, tree, box, kind, 3), first)
                self.assertTrue(samples.is_told(first))
            self.assertTrue(samples.is_like((house, tree, box), before))


if __name__ == "__main__":
    unittest.main()
