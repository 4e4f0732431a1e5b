"""[13]: boxes asked of trees by turns; with [3] (a), (b), answers as by going through all things, and never more looks."""

import copy
import random
import unittest

import samples
from boxlayers.answers import answer
from boxlayers.boxes import plain_box
from boxlayers.drawing import drawn
from boxlayers.turnasks import by_turns, cuts, most_turn_looks, taken_by_turns
from boxlayers.turns import turns


def plainly(tree, box):
    taken, looks = samples.taken_plainly(tree, plain_box(box))
    return (tuple(taken), looks)


def cuts_plainly(n, d, i, turn=0):
    if n <= 1:
        return 0
    many = 1 + cuts_plainly(samples.halved_up(n), d, i, turn + 1)
    if turn % d != i:
        many += cuts_plainly(n - samples.halved_up(n), d, i, turn + 1)
    return many


class ByHand(unittest.TestCase):
    house = (2, ((0, (4, 1), 10), (3, (5, 1), -2), (8, (0, 2), 7)))

    def test_boxes(self):
        tree = turns(self.house)
        for box, told in [
            (samples.whole(2), (((0, 3, 8),), 1)),
            ((((0, True), (5, False)), (None, (2, True))), (((0, 8),), 3)),
            ((((4, True), None), (None, None)), (((0,), (3,)), 5)),
            ((((4, False), None), (None, None)), (((3,),), 3)),
            (((None, None), ((2, True), None)), (((8,),), 5)),
            (((None, None), ((2, False), None)), ((), 1)),
            # The empty one lies apart from all.
            ((((4, True), (0, True)), (None, None)), ((), 1)),
        ]:
            self.assertEqual(taken_by_turns(self.house, tree, box), told, box)

    def test_the_empty_box_takes_one_look(self):
        house = (1, ((0, (-3,), 0), (1, (0,), 0), (2, (1,), 0), (3, (2,), 0)))
        for box in ((((1, True), (0, True)),), (((5, False), (6, False)),)):
            self.assertEqual(taken_by_turns(house, turns(house), box), ((), 1))

    def test_asks(self):
        box = (((0, True), (5, False)), (None, (2, True)))
        for ask, told in [
            (("count", box), (2, 3)), (("sum", box), (17, 3)), (("least", box), (8, 3)), (("most", box), (0, 3)),
            (("all", box), ((8, 0), 3)), (("first", box, 0), ((), 3)), (("first", box, 1), ((8,), 3)),
            (("first", box, 9), ((8, 0), 3)), (("best", box, 0), ((), 0)), (("best", box, 1), ((0,), 3)),
            (("best", box, 2), ((0, 8), 4)), (("best", box, 9), ((0, 8), 4)), (("near", box, (5, 5), 0), ((), 0)),
            (("near", box, (5, 5), 1), ((0,), 3)), (("near", box, (0, 0), 1), ((8,), 3)),
            (("near", box, (0, 0), 2), ((8, 0), 4)),
        ]:
            self.assertEqual(by_turns(self.house, turns(self.house), ask), told, ask)

    def test_of_none(self):
        for d in range(1, 5):
            for box in samples.edge_boxes(d):
                self.assertEqual(taken_by_turns((d, ()), None, box), ((), 0))
                told = [by_turns((d, ()), None, (word, box)) for word in ("count", "sum", "least", "most", "all")]
                self.assertEqual(told, [(0, 0), (0, 0), (None, 0), (None, 0), ((), 0)])
                for ask in (("first", box, 2), ("best", box, 2), ("near", box, (0,) * d, 2), ("best", box, 0)):
                    self.assertEqual(by_turns((d, ()), None, ask), ((), 0))

    def test_cuts(self):
        # By one number a side cuts one tree at each level.
        self.assertEqual([cuts(n, 1, 0) for n in (0, 1, 2, 3, 4, 5, 8, 9)], [0, 0, 1, 2, 2, 3, 3, 4])
        # Of two numbers each second level is halved by the other one, and both trees may be cut.
        self.assertEqual([cuts(n, 2, 0) for n in (0, 1, 2, 3, 4, 5, 8)], [0, 0, 1, 2, 2, 3, 4])
        self.assertEqual([cuts(n, 2, 1) for n in (0, 1, 2, 3, 4, 5, 8)], [0, 0, 1, 2, 3, 4, 5])

    def test_most_looks(self):
        self.assertEqual([most_turn_looks(n, 1) for n in (0, 1, 2, 3, 4, 8, 16)], [0, 1, 3, 5, 7, 13, 17])
        # Of 256 things with two numbers sides cut 30 and 45, of 64 they cut 14 and 21, and 2 n - 1 is less.
        self.assertEqual([most_turn_looks(n, 2) for n in (0, 1, 2, 64, 256)], [0, 1, 3, 127, 301])
        self.assertEqual([most_turn_looks(n, 4) for n in (0, 1, 2, 60)], [0, 1, 3, 119])


class TakenByTurns(unittest.TestCase):
    def test_as_the_document_tells(self):
        dice = random.Random(110)
        for house in samples.some_houses(dice):
            for tree in samples.both_trees(dice, house):
                for box in samples.asked_boxes(dice, house, 8):
                    told = taken_by_turns(house, tree, box)
                    self.assertTrue(samples.is_like(told, plainly(tree, box)), (house, box))
                    self.assertTrue(samples.is_like(taken_by_turns(house, tree, box), told))

    def test_all_boxes_of_a_small_house(self):
        dice = random.Random(111)
        house = samples.made_house(dice, 1, 6, range(-2, 3))
        for tree in samples.both_trees(dice, house):
            for span in samples.spans(range(-4, 4)):
                self.assertEqual(taken_by_turns(house, tree, (span,)), plainly(tree, (span,)))

    def test_just_those_that_fit_each_once(self):
        dice = random.Random(112)
        for house in samples.some_houses(dice, (1, 2, 6, 20)):
            for tree in samples.both_trees(dice, house):
                for box in samples.asked_boxes(dice, house, 5):
                    taken, looks = taken_by_turns(house, tree, box)
                    names = sorted(name for row in taken for name in row)
                    self.assertEqual(names, [thing[0] for thing in samples.things_in(house, box)])

    def test_low_and_high_exchanged(self):
        dice = random.Random(113)
        for house in samples.some_houses(dice, (2, 9)):
            names, bounds, low, high = turns(house)
            for box in samples.asked_boxes(dice, house, 5):
                self.assertEqual(
                    taken_by_turns(house, (names, bounds, high, low), box), plainly((names, bounds, high, low), box))

    def test_as_deep_as_there_are_things(self):
        dice = random.Random(114)
        house = samples.made_house(dice, 2, 300, range(-50, 51))
        for tree in (samples.thin_tree(house), samples.thin_tree(house, high=True)):
            for box in samples.asked_boxes(dice, house, 8):
                for ask in (("all", box), ("near", box, (0, 0), 9), ("best", box, 400)):
                    self.assertEqual(by_turns(house, tree, ask)[0], answer(house, ask))


class ByTurns(unittest.TestCase):
    def test_plain_asks_through_all_things(self):
        dice = random.Random(115)
        for house in samples.some_houses(dice):
            for tree in samples.both_trees(dice, house):
                for box in samples.asked_boxes(dice, house, 3):
                    looks = plainly(tree, box)[1]
                    for ask in samples.plain_asks(dice, box, len(house[1])):
                        told = by_turns(house, tree, ask)
                        self.assertTrue(samples.is_like(told, (answer(house, ask), looks)), (house, ask))

    def test_near_and_best_through_all_things(self):
        dice = random.Random(116)
        for house in samples.some_houses(dice):
            for tree in samples.both_trees(dice, house):
                for box in samples.asked_boxes(dice, house, 1):
                    for ask in samples.drawn_asks(dice, house, box):
                        names, looks, waiting = drawn(house, tree, box, samples.kind_of(ask), ask[-1])
                        told = by_turns(house, tree, ask)
                        self.assertTrue(samples.is_like(told, (answer(house, ask), looks)), (house, ask))
                        self.assertEqual(names, told[0])

    def test_what_is_handed_in_stays_and_asked_again_the_same_is_told(self):
        dice = random.Random(117)
        for house in samples.some_houses(dice, (0, 1, 9)):
            tree = turns(house)
            boxes = samples.asked_boxes(dice, house, 2)
            asks = [ask for box in boxes for ask in samples.plain_asks(dice, box, 3) + samples.drawn_asks(dice, house, box)]
            before = copy.deepcopy((house, tree, tuple(asks)))
            first = [by_turns(house, tree, ask) for ask in asks]
            self.assertEqual([by_turns(house, tree, ask) for ask in asks], first)
            self.assertTrue(samples.is_like((house, tree, tuple(asks)), before))
            self.assertTrue(samples.is_told(tuple(first)))


class MostTurnLooks(unittest.TestCase):
    def test_as_the_document_tells(self):
        for d in range(1, 5):
            for n in samples.powers_and_beside(60 if d == 4 else 300):
                many = [cuts_plainly(n, d, i) for i in range(d)]
                self.assertTrue(samples.is_like(tuple(cuts(n, d, i) for i in range(d)), tuple(many)), (n, d))
                most = 0 if n == 0 else min(2 * n - 1, 1 + 4 * sum(many))
                self.assertTrue(samples.is_like(most_turn_looks(n, d), most), (n, d))

    def test_never_more_looks(self):
        dice = random.Random(118)
        for house in samples.some_houses(dice, (1, 2, 3, 4, 5, 8, 9, 16, 17, 31)):
            tree = turns(house)
            most = most_turn_looks(len(house[1]), house[0])
            for box in samples.asked_boxes(dice, house, 12):
                self.assertLessEqual(taken_by_turns(house, tree, box)[1], most)

    def test_never_more_looks_of_many_things(self):
        dice = random.Random(119)
        for d, many in ((1, 300), (2, 300), (3, 129), (4, 60)):
            house = samples.made_house(dice, d, many, range(-40, 41))
            tree = turns(house)
            for box in samples.asked_boxes(dice, house, 60):
                told = taken_by_turns(house, tree, box)
                self.assertEqual(told, plainly(tree, box))
                self.assertLessEqual(told[1], most_turn_looks(many, d))

    def test_a_side_cuts_no_more_trees_than_told(self):
        dice = random.Random(120)
        for d, many in ((1, 64), (2, 100), (3, 65), (4, 33)):
            for numbers in (range(-40, 41), range(0, 3)):
                house = samples.made_house(dice, d, many, numbers)
                for i in range(d):
                    for number in range(-41, 42, 3):
                        limits = [tree[1][i] for tree in samples.trees_within(turns(house))]
                        cut = sum(1 for first, last in limits if first < number <= last)
                        self.assertLessEqual(cut, cuts(many, d, i))


if __name__ == "__main__":
    unittest.main()
