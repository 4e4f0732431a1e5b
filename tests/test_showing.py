"""[24]: boxes, asks and houses as texts."""

import copy
import random
import unittest

import samples
from boxlayers.showing import show_ask, show_box, show_house


def span_plainly(span):
    low, high = span
    left = "-" if low is None else "%s%d" % ("[" if low[1] else "(", low[0])
    right = "-" if high is None else "%d%s" % (high[0], "]" if high[1] else ")")
    return left + ".." + right


def box_plainly(box):
    return " ".join(map(span_plainly, box))


def place_plainly(place):
    return ",".join(map(str, place))


def ask_plainly(ask):
    word, box = ask[:2]
    if word == "near":
        return "near %s %d %s" % (place_plainly(ask[2]), ask[3], box_plainly(box))
    return " ".join([word] + [str(k) for k in ask[2:]] + [box_plainly(box)])


def house_plainly(house):
    rows = ["house %d" % house[0]] + ["%d %s %d" % (name, place_plainly(place), worth) for name, place, worth in house[1]]
    return "\n".join(rows)


class ByHand(unittest.TestCase):
    def test_boxes(self):
        for box, text in [
            (((None, None),), "-..-"),
            ((((-5, True), (3, False)),), "[-5..3)"),
            ((((5, False), (-3, True)),), "(5..-3]"),
            (((None, (0, True)),), "-..0]"),
            (((None, (0, False)),), "-..0)"),
            ((((0, True), None),), "[0..-"),
            ((((-1, False), None),), "(-1..-"),
            ((((-5, True), (3, False)), (None, None)), "[-5..3) -..-"),
            (((None, None),) * 4, "-..- -..- -..- -..-"),
            ((((samples.BIG, True), (-samples.BIG, True)),), "[999999999999999999..-999999999999999999]"),
        ]:
            self.assertEqual(show_box(box), text)

    def test_asks(self):
        box, text = (((1, True), (2, False)), (None, None)), "[1..2) -..-"
        for word in ("count", "sum", "least", "most", "all"):
            self.assertEqual(show_ask((word, box)), word + " " + text)
        self.assertEqual(show_ask(("first", box, 0)), "first 0 " + text)
        self.assertEqual(show_ask(("best", box, 12)), "best 12 " + text)
        self.assertEqual(show_ask(("near", box, (-3, 0), 7)), "near -3,0 7 " + text)
        self.assertEqual(show_ask(("near", (((1, True), (2, False)),), (5,), 1)), "near 5 1 [1..2)")

    def test_houses(self):
        for d in range(1, 5):
            self.assertEqual(show_house((d, ())), f"house {d}")
        self.assertEqual(show_house((1, ((0, (0,), 0),))), "house 1\n0 0 0")
        self.assertEqual(show_house((2, ((0, (4, -1), 10), (3, (5, 0), -2)))), "house 2\n0 4,-1 10\n3 5,0 -2")


class Shown(unittest.TestCase):
    def test_boxes_and_asks(self):
        dice = random.Random(360)
        for house in samples.some_houses(dice, (0, 3)):
            for box in samples.asked_boxes(dice, house, 8) + samples.boxes(dice, house[0], 4, range(-12, 13)):
                self.assertEqual(show_box(box), box_plainly(box))
                for ask in samples.plain_asks(dice, box, 3) + samples.drawn_asks(dice, house, box):
                    self.assertEqual(show_ask(ask), ask_plainly(ask))

    def test_houses(self):
        dice = random.Random(361)
        for house in samples.some_houses(dice, (0, 1, 2, 9, 60)):
            self.assertEqual(show_house(house), house_plainly(house))

    def test_numbers_of_all_sizes(self):
        dice = random.Random(362)
        numbers = [10 ** k + more for k in range(45) for more in (-1, 0, 1)] + [dice.randrange(10 ** k) for k in range(1, 60)]
        for number in numbers:
            for sign in (1, -1):
                self.assertEqual(show_box(((None, (sign * number, True)),)), f"-..{sign * number}]")

    def test_numbers_of_some_thousand_figures(self):
        self.assertEqual(show_box(((None, (-10 ** 6000, True)),)), "-..-1" + "0" * 6000 + "]")

    def test_what_is_handed_in_stays_and_asked_again_the_same_is_told(self):
        dice = random.Random(363)
        for house in samples.some_houses(dice, (0, 5)):
            box = samples.asked_boxes(dice, house, 1)[-1]
            ask = ("best", box, 3)
            before = copy.deepcopy((house, box, ask))
            told = (show_house(house=house), show_box(box=box), show_ask(ask=ask))
            self.assertEqual((show_house(house), show_box(box), show_ask(ask)), told)
            self.assertTrue(all(type(text) is str for text in told))
            self.assertTrue(samples.is_like((house, box, ask), before))


if __name__ == "__main__":
    unittest.main()
