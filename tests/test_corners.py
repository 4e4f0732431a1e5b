"""[9]: corner sums; with [3] and [7], that they answer as going through all things does."""

import itertools
import random
import unittest

import samples
from boxlayers.answers import answer
from boxlayers.boxes import box_of, plain_box
from boxlayers.corners import Corners

BOXES_OF_ONE_PLAIN_BOX = [
    (((1, True), (3, True)), ((0, False), (4, False)), ((1, True), (4, False)), ((0, False), (3, True))),
    ((None, (2, True)), (None, (3, False))),
    (((-2, True), None), ((-3, False), None)),
]
CROSSED = [((3, True), (2, True)), ((0, False), (1, False)), ((5, True), (-5, False))]


def unlike(house, i):
    """The rising unlike numbers i."""
    numbers = []
    for name, place, worth in house[1]:
        if place[i] not in numbers:
            numbers.append(place[i])
    return tuple(sorted(numbers))


def below(house, ranks):
    """(count, sum) of the things whose number i is one of the first of so many values, for each i."""
    count = total = 0
    for name, place, worth in house[1]:
        if all(number in unlike(house, i)[:ranks[i]] for i, number in enumerate(place)):
            count, total = count + 1, total + worth
    return (count, total)


def looks_of(house, box):
    """The looks of all spans, none for None, and one for each corner."""
    looks = 1
    for i in range(house[0]):
        looks *= 2
    for i, (least, greatest) in enumerate(plain_box(box)):
        looks += 0 if least is None else samples.search_looks(unlike(house, i), least)
        looks += 0 if greatest is None else samples.search_looks(unlike(house, i), greatest + 1)
    return looks


def plainly(house, box):
    things = samples.things_in(house, box)
    return (len(things), sum(thing[2] for thing in things), looks_of(house, box))


def houses(dice):
    for d in range(1, 4):
        for many in (0, 1, 2, 3, 8, 20, 40):
            for numbers in (range(4, 5), range(0, 2), range(-3, 4), range(-99, 100)):
                yield samples.made_house(dice, d, many, numbers)
        yield samples.made_house(dice, d, 12, (-samples.BIG, -1, 0, samples.BIG), (-samples.BIG, samples.BIG, 1))


class ByHand(unittest.TestCase):
    house = (2, ((0, (1, 5), 10), (2, (3, 5), -4), (3, (1, 7), 100), (7, (3, 9), 1000), (8, (1, 5), 1)))

    def test_values(self):
        corners = Corners(self.house)
        self.assertEqual([corners.values(0), corners.values(1)], [(1, 3), (5, 7, 9)])

    def test_corner(self):
        corners = Corners(self.house)
        for ranks, told in [
            ((0, 0), (0, 0)), ((0, 3), (0, 0)), ((2, 0), (0, 0)), ((1, 1), (2, 11)), ((1, 2), (3, 111)),
            ((1, 3), (3, 111)), ((2, 1), (3, 7)), ((2, 2), (4, 107)), ((2, 3), (5, 1107)),
        ]:
            self.assertEqual(corners.corner(ranks), told, ranks)

    def test_ask(self):
        corners = Corners(self.house)
        for box, told in [
            (samples.whole(2), (5, 1107, 4)),
            # Of (1, 3) the position of 2 takes two looks, of (5, 7, 9) those of 7 and 10 take two each.
            ((((1, False), None), ((6, False), (9, True))), (1, 1000, 10)),
            (((None, None), (None, (6, True))), (3, 7, 6)),
            # The empty one: of 1 two looks twice in (1, 3), two looks twice in (5, 7, 9).
            ((((2, True), (1, True)), (None, None)), (0, 0, 12)),
        ]:
            self.assertEqual(corners.ask(box), told, box)

    def test_of_no_things(self):
        for d in range(1, 4):
            corners = Corners((d, ()))
            self.assertEqual([corners.values(i) for i in range(d)], [()] * d)
            self.assertEqual(corners.corner((0,) * d), (0, 0))
            for box in samples.edge_boxes(d):
                self.assertEqual(corners.ask(box), (0, 0, 2 ** d))


class Values(unittest.TestCase):
    def test_rising_and_unlike(self):
        for house in houses(random.Random(50)):
            corners = Corners(house)
            for i in range(house[0]):
                self.assertEqual(corners.values(i), unlike(house, i))
                self.assertIs(type(corners.values(i)), tuple)
                self.assertEqual(corners.values(i), unlike(house, i))


class Corner(unittest.TestCase):
    def check(self, house, corners, ranks):
        told = corners.corner(ranks)
        self.assertEqual(told, below(house, ranks), (house, ranks))
        self.assertEqual([type(told), type(told[0]), type(told[1])], [tuple, int, int])
        self.assertEqual(corners.corner(ranks), told)

    def test_all_ranks_of_small_houses(self):
        dice = random.Random(51)
        for d in range(1, 4):
            for many in (0, 1, 2, 6):
                house = samples.made_house(dice, d, many, range(-2, 3))
                corners = Corners(house)
                for ranks in itertools.product(*[range(len(unlike(house, i)) + 1) for i in range(d)]):
                    self.check(house, corners, ranks)

    def test_none_all_and_others(self):
        dice = random.Random(52)
        for house in houses(dice):
            corners = Corners(house)
            most = tuple(len(unlike(house, i)) for i in range(house[0]))
            self.assertEqual(corners.corner((0,) * house[0]), (0, 0))
            self.assertEqual(corners.corner(most), (len(house[1]), sum(thing[2] for thing in house[1])))
            for each in range(8):
                self.check(house, corners, tuple(dice.randint(0, many) for many in most))
            for i in range(house[0]):
                self.assertEqual(corners.corner(most[:i] + (0,) + most[i + 1:]), (0, 0))


class Ask(unittest.TestCase):
    def boxes(self, dice, house):
        d, things = house
        numbers = [number for thing in things[:3] for number in thing[1]] + [-4, 0, 1, 4]
        return samples.edge_boxes(d) + samples.boxes(dice, d, 12, numbers)

    def test_through_all_things(self):
        dice = random.Random(53)
        for house in houses(dice):
            corners = Corners(house)
            for box in self.boxes(dice, house):
                told = corners.ask(box)
                self.assertEqual(told, plainly(house, box), (house, box))
                self.assertEqual([type(told)] + [type(each) for each in told], [tuple, int, int, int])
                self.assertEqual(corners.ask(box), told)

    def test_as_answer_tells(self):
        dice = random.Random(54)
        for house in houses(dice):
            corners = Corners(house)
            for box in self.boxes(dice, house):
                count, total, looks = corners.ask(box)
                self.assertEqual(count, answer(house, ("count", box)))
                self.assertEqual(total, answer(house, ("sum", box)))

    def test_as_many_corners_as_told(self):
        for house in houses(random.Random(55)):
            self.assertEqual(Corners(house).ask(samples.whole(house[0]))[2], 2 ** house[0])

    def test_two_asked_by_turns(self):
        dice = random.Random(56)
        for d in range(1, 4):
            one, other = samples.made_house(dice, d, 9), samples.made_house(dice, d, 14)
            boxes = samples.boxes(dice, d, 20, range(-4, 5))
            alone = [[Corners(house).ask(box) for box in boxes] for house in (one, other)]
            pair = (Corners(one), Corners(other))
            for again in range(2):
                for at, box in enumerate(boxes):
                    self.assertEqual([corners.ask(box) for corners in pair], [alone[0][at], alone[1][at]])
                    ranks = tuple(dice.randint(0, 2) for i in range(d))
                    self.assertEqual([each.corner(ranks) for each in pair], [below(one, ranks), below(other, ranks)])
                    self.assertEqual([each.values(d - 1) for each in pair], [unlike(one, d - 1), unlike(other, d - 1)])

    def test_a_box_cut_in_two(self):
        dice = random.Random(57)
        for house in houses(dice):
            corners = Corners(house)
            d = house[0]
            for box in [samples.whole(d)] + samples.boxes(dice, d, 5, range(-4, 5)):
                i, number, shut = dice.randrange(d), dice.randint(-3, 3), dice.random() < 0.5
                low, high = box[i]
                # Ends that cut may widen a span, so that only those are cut that hold the number.
                if not samples.number_fits((low, high), number):
                    continue
                lower = corners.ask(box[:i] + ((low, (number, shut)),) + box[i + 1:])
                upper = corners.ask(box[:i] + (((number, not shut), high),) + box[i + 1:])
                together = corners.ask(box)
                self.assertEqual((lower[0] + upper[0], lower[1] + upper[1]), together[:2])

    def test_alike_for_boxes_with_one_plain_box(self):
        dice = random.Random(58)
        for house in houses(dice):
            corners = Corners(house)
            for alike in BOXES_OF_ONE_PLAIN_BOX:
                told = {corners.ask(tuple(dice.choice(alike) for i in range(house[0]))) for each in range(6)}
                self.assertEqual(len(told), 1)
            empties = {corners.ask((dice.choice(CROSSED),) + samples.whole(house[0] - 1)) for each in range(4)}
            empties |= {corners.ask(samples.whole(house[0] - 1) + (span,)) for span in CROSSED}
            self.assertEqual(len(empties), 1)
            for box in samples.boxes(dice, house[0], 5, range(-4, 5)):
                self.assertEqual(corners.ask(box), corners.ask(box_of(plain_box(box))))

    def test_somewhat_beyond_nothing_is_refused(self):
        dice = random.Random(59)
        for d, many in ((1, 300), (2, 80), (3, 60), (4, 41), (4, 60)):
            house = samples.made_house(dice, d, many)
            for box in [samples.whole(d)] + samples.boxes(dice, d, 4, range(-4, 5)):
                self.assertEqual(Corners(house).ask(box), plainly(house, box))


if __name__ == "__main__":
    unittest.main()
