"""[4]: places, boxes, and what fits."""

import copy
import random
import unittest

import samples
from boxlayers.boxes import fits, is_box, is_place

SOME_PLACES = {
    1: [(0,), (-3,), (samples.BIG,), (-samples.BIG,)],
    2: [(0, 0), (5, -5), (samples.BIG, -samples.BIG)],
    3: [(0, 0, 0), (1, 2, 3), (samples.BIG, 0, -samples.BIG)],
    4: [(0, 0, 0, 0), (4, -3, 2, -1), (samples.BIG, samples.BIG, -samples.BIG, 1)],
}
SOME_SPANS = [
    (None, None), (None, (3, True)), ((-2, False), None), ((1, True), (4, False)), ((4, False), (1, False)),
    ((-samples.BIG, True), (samples.BIG, False)), ((7, True), (7, True)), ((0, False), (0, False)),
]


def some_boxes(d):
    return [tuple(SOME_SPANS[(at + 3 * i) % len(SOME_SPANS)] for i in range(d)) for at in range(len(SOME_SPANS))]


class IsPlace(unittest.TestCase):
    def test_places_are_so_of_their_d_alone(self):
        for d in range(1, 5):
            for place in SOME_PLACES[d]:
                for asked in range(1, 5):
                    self.assertIs(is_place(place, asked), asked == d, (place, asked))

    def test_one_part_otherwise(self):
        for d in range(1, 5):
            for place in SOME_PLACES[d]:
                for other in samples.spoiled(place):
                    self.assertIs(is_place(other, d), False)

    def test_things_of_other_kinds(self):
        for d in range(1, 5):
            for thing in samples.odd_things():
                self.assertIs(is_place(thing, d), False)

    def test_truths_are_no_numbers(self):
        self.assertIs(is_place((True,), 1), False)
        self.assertIs(is_place((0, False), 2), False)

    def test_five_numbers_are_no_place(self):
        for d in range(1, 5):
            self.assertIs(is_place((1, 2, 3, 4, 5), d), False)
        self.assertIs(is_place((1, 2, 3, 4, 5), 5), False)
        self.assertIs(is_place((), 0), False)
        self.assertIs(is_place((1,), True), False)


class IsBox(unittest.TestCase):
    def test_boxes_are_so_of_their_d_alone(self):
        for d in range(1, 5):
            for box in some_boxes(d):
                for asked in range(1, 5):
                    self.assertIs(is_box(box, asked), asked == d, (box, asked))

    def test_every_span_of_a_few_ends(self):
        for span in samples.spans((-1, 0, samples.BIG)):
            self.assertIs(is_box((span,), 1), True)
            self.assertIs(is_box((span, span, span, span), 4), True)

    def test_one_part_otherwise(self):
        for d in range(1, 5):
            for box in some_boxes(d):
                for other in samples.spoiled(box):
                    self.assertIs(is_box(other, d), False)

    def test_things_of_other_kinds(self):
        for d in range(1, 5):
            for thing in samples.odd_things() + SOME_PLACES[d]:
                self.assertIs(is_box(thing, d), False)

    def test_a_plain_box_is_no_box(self):
        self.assertIs(is_box(((1, 5),), 1), False)
        self.assertIs(is_box(((1, 0), (1, 0)), 2), False)

    def test_d_is_from_one_to_four(self):
        span = (None, None)
        self.assertIs(is_box((span,) * 5, 5), False)
        self.assertIs(is_box((), 0), False)
        self.assertIs(is_box((span,), True), False)

    def test_what_is_handed_in_stays_and_is_answered_again_alike(self):
        thing = [[None, [1, True]], ({"a": [1]}, None)]
        before = copy.deepcopy(thing)
        for look in (is_box, is_place):
            self.assertIs(look(thing, 2), False)
            self.assertIs(look(tuple(thing), 2), False)
            self.assertIs(look(thing, 2), False)
        self.assertEqual(thing, before)


class Fits(unittest.TestCase):
    def test_ends_by_hand(self):
        for low, high, just in [
            (None, None, [-1, 0, 1, 2, 3, 4, 5]),
            ((1, True), None, [1, 2, 3, 4, 5]),
            ((1, False), None, [2, 3, 4, 5]),
            (None, (3, True), [-1, 0, 1, 2, 3]),
            (None, (3, False), [-1, 0, 1, 2]),
            ((1, True), (3, True), [1, 2, 3]),
            ((1, False), (3, True), [2, 3]),
            ((1, True), (3, False), [1, 2]),
            ((1, False), (3, False), [2]),
            ((2, True), (2, True), [2]),
            ((2, True), (2, False), []),
            ((2, False), (2, True), []),
            ((2, False), (2, False), []),
            ((2, False), (3, False), []),
            ((3, True), (1, True), []),
        ]:
            found = [number for number in range(-1, 6) if fits(((low, high),), (number,))]
            self.assertEqual(found, just, (low, high))

    def test_truths_are_told(self):
        self.assertIs(fits((((1, True), None),), (1,)), True)
        self.assertIs(fits((((1, False), None),), (1,)), False)
        self.assertIs(fits(((None, (1, True)),), (1,)), True)
        self.assertIs(fits(((None, (1, False)),), (1,)), False)

    def test_each_number_must_fit_the_span_there(self):
        for d in range(1, 5):
            for i in range(d):
                box = tuple(((0, True), (2, True)) if j == i else (None, None) for j in range(d))
                for number, truth in ((-1, False), (0, True), (2, True), (3, False)):
                    place = tuple(number if j == i else 99 for j in range(d))
                    self.assertIs(fits(box, place), truth)

    def test_no_ends_let_every_place_fit(self):
        for d in range(1, 5):
            for place in SOME_PLACES[d] + samples.window(d, -1, 1):
                self.assertIs(fits(((None, None),) * d, place), True)

    def test_numbers_of_eighteen_figures(self):
        big = samples.BIG
        box = (((-big, False), (big, False)), ((big - 1, True), (big, True)))
        self.assertIs(fits(box, (big - 1, big)), True)
        self.assertIs(fits(box, (1 - big, big - 1)), True)
        self.assertIs(fits(box, (big, big)), False)
        self.assertIs(fits(box, (-big, big)), False)
        self.assertIs(fits(box, (0, big - 2)), False)

    def test_all_small_spans(self):
        for span in samples.spans(range(-2, 3)):
            for number in range(-5, 6):
                self.assertIs(fits((span,), (number,)), samples.number_fits(span, number), (span, number))

    def test_boxes_of_more_spans(self):
        dice = random.Random(4)
        for d, many in ((2, 200), (3, 60), (4, 25)):
            for box in samples.boxes(dice, d, many, range(-1, 3)):
                for place in samples.window(d, -2, 3):
                    self.assertIs(fits(box, place), samples.place_fits(box, place), (box, place))


if __name__ == "__main__":
    unittest.main()
