"""[7]: asks, and the steps between places."""

import random
import unittest

import samples
from boxlayers.asks import is_ask, steps

SPANS = [(None, None), ((-3, True), (samples.BIG, False)), ((5, False), None), ((2, True), (-2, True))]
OTHER_WORDS = ("", "Count", "COUNT", "counts", "cou", " count", "number", "worth", "of", "nearest", "box", "k", "place")
# How many parts stand behind each word; those of as many parts have the same kinds of them.
PARTS = {"count": 1, "sum": 1, "least": 1, "most": 1, "all": 1, "first": 2, "best": 2, "near": 3}


def some_box(d):
    return tuple(SPANS[i] for i in range(d))


def some_asks(d, k):
    box = some_box(d)
    place = (0, -1, samples.BIG, 7)[:d]
    asks = [(word, box) for word in ("count", "sum", "least", "most", "all")]
    return asks + [("first", box, k), ("best", box, k), ("near", box, place, k)]


class IsAsk(unittest.TestCase):
    def test_all_eight_words(self):
        for d in range(1, 5):
            for k in (0, 1, 300, samples.BIG):
                asks = some_asks(d, k)
                self.assertEqual([ask[0] for ask in asks], list(samples.WORDS))
                for ask in asks:
                    for asked in range(1, 5):
                        self.assertIs(is_ask(ask, asked), asked == d, (ask, asked))

    def test_one_part_otherwise(self):
        for d in range(1, 5):
            for ask in some_asks(d, 3):
                for other in samples.spoiled(ask):
                    self.assertIs(is_ask(other, d), False)

    def test_another_word(self):
        for d in range(1, 5):
            for ask in some_asks(d, 3):
                for word in OTHER_WORDS:
                    self.assertIs(is_ask((word,) + ask[1:], d), False)
                for word in samples.WORDS:
                    self.assertIs(is_ask((word,) + ask[1:], d), PARTS[word] == PARTS[ask[0]], (ask, word))

    def test_k_is_from_zero(self):
        for d in range(1, 5):
            for k in (-1, -samples.BIG, True, False, None, "1", 1.0, (1,), [1], ("of", 0, 0)):
                for ask in some_asks(d, k)[5:]:
                    self.assertIs(is_ask(ask, d), False, k)

    def test_a_place_of_another_d(self):
        for d in range(1, 5):
            for other in range(0, 6):
                ask = ("near", some_box(d), (1,) * other, 2)
                self.assertIs(is_ask(ask, d), other == d)

    def test_a_box_of_another_d(self):
        for d in range(1, 5):
            for other in range(1, 5):
                for ask in some_asks(d, 1):
                    self.assertIs(is_ask((ask[0], some_box(other)) + ask[2:], d), other == d)

    def test_parts_in_another_order(self):
        box = some_box(2)
        for thing in [
            (box, "count"), ("first", 3, box), ("near", (0, 0), box, 3), ("near", box, 3, (0, 0)), ("near", box, (0, 0)),
            ("near", box, 3), ("first", box), ("best", box), ("count", box, box), ("count", (0, 0)), ("sum",), ("count",),
        ]:
            self.assertIs(is_ask(thing, 2), False, thing)

    def test_numbers_that_hang_belong_to_rows(self):
        hanging = ("of", 0, 1)
        for thing in [
            ("count", (((hanging, True), None),)), ("first", ((None, None),), hanging),
            ("near", ((None, None),), (hanging,), 1), ("near", ((None, None),), (0,), hanging),
            ("number", 0, 0), ("worth", 0), ("worth", hanging), hanging,
        ]:
            self.assertIs(is_ask(thing, 1), False, thing)

    def test_things_of_other_kinds(self):
        for d in range(1, 5):
            for thing in samples.odd_things():
                self.assertIs(is_ask(thing, d), False)
                for word in samples.WORDS:
                    self.assertIs(is_ask((word, thing), d), False)
                self.assertIs(is_ask((thing, some_box(d)), d), thing in samples.WORDS if type(thing) is str else False)

    def test_asked_again_the_same_is_told(self):
        for ask in some_asks(2, 1):
            self.assertIs(is_ask(ask, 2), is_ask(ask, 2))


class Steps(unittest.TestCase):
    def test_by_hand(self):
        for one, other, many in [
            ((3,), (3,), 0), ((3,), (-4,), 7), ((0, 0), (3, -4), 7), ((1, 2, 3), (3, 2, 1), 4),
            ((1, 1, 1, 1), (0, 2, 0, 2), 4), ((samples.BIG,), (-samples.BIG,), 2 * samples.BIG),
        ]:
            self.assertEqual(steps(one, other), many)
            self.assertEqual(steps(other, one), many)

    def test_either_way_about_and_to_itself(self):
        dice = random.Random(15)
        for d in range(1, 5):
            for each in range(50):
                one = tuple(dice.randint(-50, 50) for i in range(d))
                other = tuple(dice.randint(-50, 50) for i in range(d))
                many = sum(max(one[i], other[i]) - min(one[i], other[i]) for i in range(d))
                self.assertEqual(steps(one, other), many)
                self.assertEqual(steps(other, one), many)
                self.assertEqual(steps(one, one), 0)
                self.assertIs(type(steps(one, other)), int)


if __name__ == "__main__":
    unittest.main()
