"""[5]: plain boxes, and how they lie to one another."""

import itertools
import random
import unittest

import samples
from boxlayers.boxes import bounds, box_of, common, fits, is_box, is_plain, lie_apart, lies_within, plain_box

EMPTY = (1, 0)
PAIRS = [(least, greatest) for least, greatest in itertools.product((None, -1, 0, 1, 2), repeat=2)
         if least is None or greatest is None or least <= greatest]


def empty(d):
    return (EMPTY,) * d


def plain_ones(dice, d, many):
    """The empty one, and plain boxes by a seeded source."""
    return [empty(d), ((None, None),) * d] + [tuple(dice.choice(PAIRS) for i in range(d)) for each in range(many)]


def in_plain(plain, place):
    return all((least is None or number >= least) and (greatest is None or number <= greatest)
               for (least, greatest), number in zip(plain, place))


def places_of(plain):
    """Those of a window wide enough to show what None lets in."""
    return {place for place in samples.window(len(plain), -3, 4) if in_plain(plain, place)}


def pairs_of_plain_ones():
    dice = random.Random(5)
    ones = [empty(1)] + [(pair,) for pair in PAIRS]
    pairs = list(itertools.product(ones, repeat=2))
    for d, many in ((2, 30), (3, 8), (4, 3)):
        pairs += itertools.product(plain_ones(dice, d, many), repeat=2)
    return pairs


class PlainBox(unittest.TestCase):
    def test_by_hand(self):
        for span, pair in [
            ((None, None), (None, None)),
            (((3, True), None), (3, None)),
            (((3, False), None), (4, None)),
            ((None, (3, True)), (None, 3)),
            ((None, (3, False)), (None, 2)),
            (((-2, True), (5, False)), (-2, 4)),
            (((-2, False), (5, True)), (-1, 5)),
            (((2, False), (4, False)), (3, 3)),
            (((2, True), (2, True)), (2, 2)),
            (((2, False), (3, True)), (3, 3)),
            (((-samples.BIG, False), (samples.BIG, False)), (1 - samples.BIG, samples.BIG - 1)),
        ]:
            self.assertEqual(plain_box((span,)), (pair,), span)
            self.assertEqual(plain_box((span, (None, None))), (pair, (None, None)), span)

    def test_nothing_fits(self):
        for span in [
            ((3, True), (2, True)), ((9, False), (-9, False)), ((2, False), (3, False)), ((2, False), (2, False)),
            ((2, True), (2, False)), ((2, False), (2, True)), ((samples.BIG, True), (-samples.BIG, True)),
        ]:
            for d in range(1, 5):
                self.assertEqual(plain_box((span,) * d), empty(d), span)
                for i in range(d):
                    box = tuple(span if j == i else ((j, True), None) for j in range(d))
                    self.assertEqual(plain_box(box), empty(d), box)

    def test_all_small_spans(self):
        for low, high in samples.spans(range(-2, 3)):
            just = [number for number in range(-9, 10) if samples.number_fits((low, high), number)]
            pair = EMPTY
            if just:
                pair = (None if low is None else just[0], None if high is None else just[-1])
            self.assertEqual(plain_box(((low, high),)), (pair,), (low, high))

    def test_a_place_fits_a_box_where_it_fits_that_of_the_plain_one(self):
        dice = random.Random(45)
        for d, many in ((1, 60), (2, 120), (3, 40), (4, 15)):
            for box in samples.boxes(dice, d, many, range(-1, 3)):
                again = box_of(plain_box(box))
                self.assertIs(is_box(again, d), True)
                for place in samples.window(d, -2, 3):
                    self.assertIs(fits(again, place), fits(box, place), (box, place))

    def test_a_plain_box_is_told(self):
        dice = random.Random(46)
        for d in range(1, 5):
            for box in samples.boxes(dice, d, 50, range(-2, 3)):
                self.assertIs(is_plain(plain_box(box), d), True, box)
                self.assertEqual(plain_box(box), plain_box(box))


class IsPlain(unittest.TestCase):
    def test_plain_boxes_are_so_of_their_d_alone(self):
        dice = random.Random(6)
        big = ((-samples.BIG, samples.BIG),)
        for d in range(1, 5):
            for plain in plain_ones(dice, d, 30) + [big * d]:
                for asked in range(1, 5):
                    self.assertIs(is_plain(plain, asked), asked == d, (plain, asked))

    def test_one_part_otherwise(self):
        # A number may stand where None does, and None for a number: those are told below.
        dice = random.Random(7)
        for d in range(1, 5):
            for plain in plain_ones(dice, d, 30):
                for other in samples.spoiled(plain):
                    if not self.is_pairs(other):
                        self.assertIs(is_plain(other, d), False)

    def is_pairs(self, thing):
        """Whether the thing is made of tuples of whole numbers and None alone, two in each."""
        if type(thing) is not tuple or not all(type(pair) is tuple and len(pair) == 2 for pair in thing):
            return False
        return all(number is None or type(number) is int for pair in thing for number in pair)

    def test_none_or_a_number_exchanged(self):
        self.assertIs(is_plain(((None, 0), (0, 3)), 2), True)
        self.assertIs(is_plain(((1, None), (0, 3)), 2), True)
        self.assertIs(is_plain(((1, 0), (1, None)), 2), False)
        self.assertIs(is_plain(((None, 0), (1, 0)), 2), False)

    def test_crossed_pairs(self):
        for crossed in ((2, 1), (0, -1), (1, -1), (samples.BIG, -samples.BIG), (2, 0)):
            for d in range(1, 5):
                self.assertIs(is_plain((crossed,) * d, d), False)
                for i in range(d):
                    self.assertIs(is_plain(tuple(crossed if j == i else (0, 5) for j in range(d)), d), False)
                    self.assertIs(is_plain(tuple(crossed if j == i else EMPTY for j in range(d)), d), False)

    def test_the_empty_pair_stands_in_all_places_or_in_none(self):
        for d in range(1, 5):
            for chosen in itertools.product((True, False), repeat=d):
                plain = tuple(EMPTY if each else (None, 5) for each in chosen)
                self.assertIs(is_plain(plain, d), all(chosen) or not any(chosen), plain)

    def test_truths_like_the_empty_pair(self):
        for pair in ((True, False), (True, 0), (1, False), (1.0, 0.0), (False, True)):
            for d in range(1, 5):
                self.assertIs(is_plain((pair,) * d, d), False)

    def test_things_of_other_kinds(self):
        for d in range(1, 5):
            for thing in samples.odd_things():
                self.assertIs(is_plain(thing, d), False)

    def test_a_box_is_no_plain_box(self):
        self.assertIs(is_plain((((1, True), (2, True)),), 1), False)
        self.assertIs(is_plain((((1, True), None),), 1), False)

    def test_d_is_from_one_to_four(self):
        self.assertIs(is_plain(((None, None),) * 5, 5), False)
        self.assertIs(is_plain((), 0), False)
        self.assertIs(is_plain((EMPTY,), True), False)


class BoxOf(unittest.TestCase):
    def test_by_hand(self):
        self.assertEqual(box_of(((1, 5), (None, 2), (3, None), (None, None))), (
            ((1, True), (5, True)), (None, (2, True)), ((3, True), None), (None, None)))

    def test_of_the_empty_one(self):
        for d in range(1, 5):
            self.assertEqual(box_of(empty(d)), (((1, True), (0, True)),) * d)

    def test_its_plain_box_is_that_one_again(self):
        dice = random.Random(8)
        for d in range(1, 5):
            for plain in plain_ones(dice, d, 40):
                box = box_of(plain)
                self.assertIs(is_box(box, d), True)
                self.assertEqual(plain_box(box), plain)
                self.assertTrue(all(end is None or end[1] is True for span in box for end in span))


class TwoPlainBoxes(unittest.TestCase):
    def test_common(self):
        for one, other in pairs_of_plain_ones():
            both = common(one, other)
            self.assertIs(is_plain(both, len(one)), True)
            self.assertEqual(places_of(both), places_of(one) & places_of(other), (one, other))
            self.assertEqual(both, common(other, one))

    def test_common_keeps_none_and_tells_the_empty_one(self):
        self.assertEqual(common(((None, 3),), ((None, 5),)), ((None, 3),))
        self.assertEqual(common(((2, None),), ((None, 5),)), ((2, 5),))
        self.assertEqual(common(((None, None),), ((None, None),)), ((None, None),))
        self.assertEqual(common(((0, 4), (0, 4)), ((4, 9), (5, 9))), empty(2))
        self.assertEqual(common(((0, 4), (0, 4)), ((4, 9), (4, 9))), ((4, 4), (4, 4)))
        for d in range(1, 5):
            for other in (empty(d), ((None, None),) * d, ((0, 5),) * d, ((1, 1),) * d, ((None, 0),) * d):
                self.assertEqual(common(empty(d), other), empty(d))
                self.assertEqual(common(other, empty(d)), empty(d))

    def test_lies_within(self):
        for one, other in pairs_of_plain_ones():
            self.assertIs(lies_within(one, other), places_of(one) <= places_of(other), (one, other))

    def test_lie_apart(self):
        for one, other in pairs_of_plain_ones():
            self.assertIs(lie_apart(one, other), not (places_of(one) & places_of(other)), (one, other))

    def test_the_empty_one(self):
        for d in range(1, 5):
            for other in (((None, None),) * d, ((0, 5),) * d, ((0, 1),) * d):
                self.assertIs(lies_within(empty(d), other), True)
                self.assertIs(lies_within(other, empty(d)), False)
                self.assertIs(lie_apart(empty(d), other), True)
                self.assertIs(lie_apart(other, empty(d)), True)
            self.assertIs(lies_within(empty(d), empty(d)), True)
            self.assertIs(lie_apart(empty(d), empty(d)), True)

    def test_a_place_fits_both_boxes_where_it_fits_that_of_the_common_one(self):
        dice = random.Random(55)
        for d, many in ((1, 60), (2, 80), (3, 25), (4, 8)):
            ones = samples.boxes(dice, d, many, range(-1, 3))
            others = samples.boxes(dice, d, many, range(-1, 3))
            for one, other in zip(ones, others):
                both = box_of(common(plain_box(one), plain_box(other)))
                for place in samples.window(d, -2, 3):
                    self.assertIs(fits(both, place), fits(one, place) and fits(other, place))


class Bounds(unittest.TestCase):
    def test_of_one_place(self):
        self.assertEqual(bounds(((7,),)), ((7, 7),))
        self.assertEqual(bounds(((1, 0),)), ((1, 1), (0, 0)))
        self.assertEqual(bounds(((1, -2, 3, samples.BIG),)), ((1, 1), (-2, -2), (3, 3), (samples.BIG, samples.BIG)))

    def test_of_several(self):
        self.assertEqual(bounds(((3, 5), (-1, 9), (2, 0))), ((-1, 3), (0, 9)))
        self.assertEqual(bounds(((4, 4, 4), (4, 4, 4))), ((4, 4),) * 3)

    def test_it_is_the_least_plain_box_that_holds_them(self):
        dice = random.Random(9)
        for d in range(1, 5):
            for many in (1, 2, 3, 10):
                places = tuple(tuple(dice.randint(-20, 20) for i in range(d)) for each in range(many))
                around = bounds(places)
                self.assertIs(is_plain(around, d), True)
                for i, (least, greatest) in enumerate(around):
                    numbers = sorted(place[i] for place in places)
                    self.assertEqual((least, greatest), (numbers[0], numbers[-1]))


if __name__ == "__main__":
    unittest.main()
