"""[15]: boxes asked of rows with marks; with [3] (a), (b), as by going through all things, and never more looks."""

import copy
import random
import unittest

import samples
from boxlayers.answers import answer
from boxlayers.boxes import plain_box
from boxlayers.markasks import by_marks, kth_by_marks, most_mark_looks, taken_by_marks
from boxlayers.marks import marked

COUNTS = (0, 1, 2, 3, 4, 5, 9, 16, 17, 33, 60)


def houses(dice, counts=COUNTS):
    return samples.some_houses(dice, counts, ds=(2,))


def span_in(row, pair):
    least, greatest = pair
    begin = 0 if least is None else sum(1 for number in row if number < least)
    end = len(row) if greatest is None else sum(1 for number in row if number <= greatest)
    looks = 0 if least is None else samples.search_looks(row, least)
    return begin, end, looks + (0 if greatest is None else samples.search_looks(row, greatest + 1))


def asked(tree, begin, end, pair):
    """([(tree, begin, end) of each taken one], looks) as the document tells it."""
    row, ends, marks, sums, low, high = tree
    least, greatest = pair
    if begin == end:
        return [], 0
    if (least is not None and ends[1] < least) or (greatest is not None and ends[0] > greatest):
        return [], 1
    if (least is None or ends[0] >= least) and (greatest is None or ends[1] <= greatest):
        return [(tree, begin, end)], 1
    one, one_looks = asked(low, marks[begin], marks[end], pair)
    other, other_looks = asked(high, begin - marks[begin], end - marks[end], pair)
    return one + other, 1 + one_looks + other_looks


def taken_plainly(house, tree, box):
    if tree is None:
        return [], 0
    places = {name: place for name, place, worth in house[1]}
    across, along = plain_box(box)
    begin, end, looks = span_in([places[name][1] for name in tree[0]], along)
    taken, more = asked(tree, begin, end, across)
    return taken, looks + more


def down(tree, begin, end, k):
    """The looks on the way down to the k-th of those from begin to end."""
    row, ends, marks, sums, low, high = tree
    if len(row) == 1:
        return 1
    in_low = marks[end] - marks[begin]
    if in_low > k:
        return 1 + down(low, marks[begin], marks[end], k)
    return 1 + down(high, begin - marks[begin], end - marks[end], k - in_low)


def kth_plainly(house, tree, box, k):
    names = samples.names_of(samples.in_order(samples.things_in(house, box), 0))
    taken, looks = taken_plainly(house, tree, box)
    if k >= len(names):
        return (None, looks)
    left = k
    for part, begin, end in taken:
        if left < end - begin:
            return (names[k], looks + down(part, begin, end, left))
        left -= end - begin


class ByHand(unittest.TestCase):
    house = (2, ((0, (4, 1), 10), (3, (5, 1), -2), (8, (0, 2), 7)))

    def test_boxes(self):
        tree = marked(self.house)
        for box, taken, looks, count, total in [
            (samples.whole(2), (((0, 3, 8), 0, 3),), 1, 3, 15),
            # Of (1, 1, 2) the position of 3 takes two looks; the top, low and high are looked at.
            ((((0, True), (5, False)), (None, (2, True))), (((0, 8), 0, 2),), 5, 2, 17),
            # Those above 1 are one, 8; it is in low, high is passed.
            ((((0, True), (3, True)), ((1, False), None)), (((8,), 0, 1),), 5, 1, 7),
            ((((1, True), None), ((1, False), None)), (), 5, 0, 0),
            ((((4, True), None), (None, (1, True))), (((0,), 0, 1), ((3,), 0, 1)), 6, 2, 8),
            # Begin is end, so that nothing but the row is looked at.
            (((None, None), ((2, False), None)), (), 2, 0, 0),
            ((((5, True), (1, True)), (None, None)), (), 4, 0, 0),
        ]:
            self.assertEqual(taken_by_marks(self.house, tree, box), (taken, looks), box)
            self.assertEqual(by_marks(self.house, tree, box), (count, total, looks), box)

    def test_kth(self):
        tree = marked(self.house)
        for box, told in [
            (samples.whole(2), [(8, 4), (0, 4), (3, 3), (None, 1), (None, 1)]),
            ((((0, True), (5, False)), (None, (2, True))), [(8, 7), (0, 7), (None, 5)]),
            ((((4, True), None), (None, (1, True))), [(0, 7), (3, 7), (None, 6)]),
            (((None, None), (None, (1, True))), [(0, 6), (3, 5), (None, 3)]),
            ((((5, True), (1, True)), (None, None)), [(None, 4)]),
        ]:
            self.assertEqual([kth_by_marks(self.house, tree, box, k) for k in range(len(told))], told, box)

    def test_of_none(self):
        for box in samples.edge_boxes(2):
            self.assertEqual(taken_by_marks((2, ()), None, box), ((), 0))
            self.assertEqual(by_marks((2, ()), None, box), (0, 0, 0))
            for k in (0, 1, 5):
                self.assertEqual(kth_by_marks((2, ()), None, box, k), (None, 0))

    def test_most_looks(self):
        self.assertEqual([most_mark_looks(n) for n in (0, 1, 2, 3, 4, 5, 8, 300)], [0, 3, 7, 11, 13, 17, 19, 53])


class TakenByMarks(unittest.TestCase):
    def test_as_the_document_tells(self):
        dice = random.Random(170)
        for house in houses(dice):
            tree = marked(house)
            for box in samples.asked_boxes(dice, house, 20):
                taken, looks = taken_plainly(house, tree, box)
                wanted = (tuple((part[0], begin, end) for part, begin, end in taken), looks)
                told = taken_by_marks(house, tree, box)
                self.assertTrue(samples.is_like(told, wanted), (house, box))
                self.assertTrue(samples.is_like(taken_by_marks(house, tree, box), told))

    def test_just_those_that_fit_each_once(self):
        dice = random.Random(171)
        for house in houses(dice):
            tree = marked(house)
            for box in samples.asked_boxes(dice, house, 10):
                taken, looks = taken_by_marks(house, tree, box)
                names = sorted(name for row, begin, end in taken for name in row[begin:end])
                self.assertEqual(names, [thing[0] for thing in samples.things_in(house, box)])
                self.assertTrue(all(begin < end for row, begin, end in taken))

    def test_all_boxes_of_a_small_house(self):
        dice = random.Random(172)
        house = samples.made_house(dice, 2, 7, range(-1, 2))
        tree = marked(house)
        some = samples.spans(range(-2, 3))
        for one in some[::2]:
            for other in some[::5]:
                taken, looks = taken_plainly(house, tree, (one, other))
                told = taken_by_marks(house, tree, (one, other))
                self.assertEqual(told, (tuple((part[0], begin, end) for part, begin, end in taken), looks))


class ByMarks(unittest.TestCase):
    def test_through_all_things(self):
        dice = random.Random(173)
        for house in houses(dice):
            tree = marked(house)
            for box in samples.asked_boxes(dice, house, 20):
                looks = taken_plainly(house, tree, box)[1]
                wanted = (answer(house, ("count", box)), answer(house, ("sum", box)), looks)
                told = by_marks(house, tree, box)
                self.assertTrue(samples.is_like(told, wanted), (house, box))
                self.assertEqual(by_marks(house, tree, box), told)

    def test_as_many_things_as_told(self):
        dice = random.Random(174)
        house = samples.made_house(dice, 2, 300, range(-60, 61), (-samples.BIG, samples.BIG, 1, 0))
        tree = marked(house)
        for box in samples.asked_boxes(dice, house, 60):
            told = by_marks(house, tree, box)
            self.assertEqual(told[:2], (answer(house, ("count", box)), answer(house, ("sum", box))))
            self.assertLessEqual(told[2], most_mark_looks(300))


class KthByMarks(unittest.TestCase):
    def test_each_k(self):
        dice = random.Random(175)
        for house in houses(dice):
            tree = marked(house)
            for box in samples.asked_boxes(dice, house, 8):
                for k in range(len(samples.things_in(house, box)) + 3):
                    told = kth_by_marks(house, tree, box, k)
                    self.assertTrue(samples.is_like(told, kth_plainly(house, tree, box, k)), (house, box, k))
                self.assertTrue(samples.is_like(
                    kth_by_marks(house, tree, box, samples.BIG), (None, taken_by_marks(house, tree, box)[1])))

    def test_no_more_looks_than_told(self):
        dice = random.Random(176)
        for house in houses(dice, (1, 2, 3, 8, 17, 60)):
            tree = marked(house)
            for box in samples.asked_boxes(dice, house, 6):
                looks = taken_by_marks(house, tree, box)[1]
                for k in range(len(samples.things_in(house, box))):
                    more = kth_by_marks(house, tree, box, k)[1] - looks
                    self.assertTrue(1 <= more <= samples.halvings(len(house[1])) + 1)


class MostMarkLooks(unittest.TestCase):
    def test_as_the_document_tells(self):
        for n in range(1, 301):
            # A search in a row of n comes to each position from 0 to n.
            search = max(samples.search_looks(range(n), number) for number in range(n + 1))
            h = samples.halvings(n)
            self.assertTrue(samples.is_like(most_mark_looks(n), 2 * search + (1 if h == 0 else 4 * h - 1)), n)
        self.assertTrue(samples.is_like(most_mark_looks(0), 0))

    def test_never_more_looks(self):
        dice = random.Random(177)
        for house in houses(dice, (1, 2, 3, 4, 5, 7, 8, 9, 15, 16, 17, 31, 33, 60)):
            tree = marked(house)
            for box in samples.asked_boxes(dice, house, 25):
                self.assertLessEqual(taken_by_marks(house, tree, box)[1], most_mark_looks(len(house[1])))


class HandedIn(unittest.TestCase):
    def test_what_is_handed_in_stays_and_asked_again_the_same_is_told(self):
        dice = random.Random(178)
        for house in houses(dice, (0, 1, 9)):
            tree = marked(house)
            boxes = tuple(samples.asked_boxes(dice, house, 3))
            before = copy.deepcopy((house, tree, boxes))
            told = [self.all_of(house, tree, box) for box in boxes]
            self.assertEqual([self.all_of(house, tree, box) for box in boxes], told)
            self.assertTrue(samples.is_like((house, tree, boxes), before))
            self.assertTrue(samples.is_told(tuple(told)))

    def all_of(self, house, tree, box):
        kths = tuple(kth_by_marks(house, tree, box, k) for k in range(3))
        return (taken_by_marks(house, tree, box), by_marks(house, tree, box), kths)


if __name__ == "__main__":
    unittest.main()
