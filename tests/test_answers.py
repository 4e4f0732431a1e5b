"""[7]: the answers of the eight words, by going through all things."""

import random
import unittest

import samples
from boxlayers.answers import answer

FIGURES = [-99999999999999999, -12345678901234567, 10 ** 16, 10 ** 16 + 1, 99999999999999999]
KINDS = [
    # (numbers, worths): far apart; many at one place; worths alike; all below 0; of seventeen figures
    (range(-9, 10), range(-50, 51)), (range(0, 2), range(-9, 10)), (range(-4, 5), range(0, 2)),
    (range(-4, 5), range(-6, 0)), (range(-4, 5), FIGURES), (FIGURES, FIGURES), (range(3, 4), range(7, 8)),
]


def by_word(ask, one, other):
    """Whether the one comes ahead of the other, both things, as the document tells it of the ask's word."""
    word = ask[0]
    if word in ("all", "first"):
        for mine, yours in zip(one[1], other[1]):
            if mine != yours:
                return mine < yours
    if word == "least" and one[2] != other[2]:
        return one[2] < other[2]
    if word in ("most", "best") and one[2] != other[2]:
        return one[2] > other[2]
    if word == "near":
        mine = sum(max(a, b) - min(a, b) for a, b in zip(one[1], ask[2]))
        yours = sum(max(a, b) - min(a, b) for a, b in zip(other[1], ask[2]))
        if mine != yours:
            return mine < yours
    return one[0] < other[0]


def plainly(house, ask):
    """The answer as the document tells it."""
    things = {thing[0]: thing for thing in samples.things_in(house, ask[1])}
    if ask[0] == "count":
        return sum(1 for name in things)
    if ask[0] == "sum":
        total = 0
        for name in things:
            total += things[name][2]
        return total
    names = samples.put(list(things), lambda one, other: by_word(ask, things[one], things[other]))
    if ask[0] in ("least", "most"):
        return names[0] if names else None
    return tuple(name for at, name in enumerate(names) if ask[0] == "all" or at < ask[-1])


def houses(dice):
    for d in range(1, 5):
        for numbers, worths in KINDS:
            for many in (0, 1, 2, 3, 9, 25):
                yield samples.made_house(dice, d, many, numbers, worths)
        yield samples.made_house(dice, d, 60)


def some_boxes(dice, house):
    d = house[0]
    numbers = [thing[1][0] for thing in house[1][:3]] or [0]
    return samples.edge_boxes(d)[:3] + samples.boxes(dice, d, 3, list(range(-3, 4)) + numbers)


def some_places(dice, house):
    d, things = house
    among = [dice.choice(things)[1]] if things else []
    return among + [tuple(dice.randint(-6, 6) for i in range(d)), (samples.BIG,) * d]


class ByHand(unittest.TestCase):
    house = (2, (
        (1, (5, 0), 7), (2, (0, 9), -3), (4, (0, -1), 7), (6, (5, 0), -3), (7, (1, 1), 0), (9, (-2, 4), 2),
    ))

    def check(self, rows):
        for ask, told in rows:
            self.assertEqual(answer(self.house, ask), told, ask)
            self.assertIs(type(answer(self.house, ask)), type(told), ask)

    def test_of_all(self):
        box = samples.whole(2)
        self.check([
            (("count", box), 6), (("sum", box), 10), (("least", box), 2), (("most", box), 1),
            (("all", box), (9, 4, 2, 7, 1, 6)), (("first", box, 3), (9, 4, 2)), (("best", box, 4), (1, 4, 9, 7)),
            (("near", box, (3, 0), 4), (1, 6, 7, 4)), (("near", box, (1, 1), 9), (7, 4, 1, 6, 9, 2)),
        ])

    def test_ends_shut_and_open(self):
        for low, high, names in [
            ((0, True), (5, True), (4, 2, 7, 1, 6)), ((0, False), (5, True), (7, 1, 6)), ((0, True), (5, False), (4, 2, 7)),
            ((0, False), (5, False), (7,)), (None, (0, False), (9,)), ((1, False), None, (1, 6)), ((5, False), None, ()),
            ((-2, False), (0, False), ()),
        ]:
            box = ((low, high), (None, None))
            self.check([(("all", box), names), (("count", box), len(names)), (("first", box, 2), names[:2])])

    def test_of_nothing(self):
        for box in samples.edge_boxes(2)[1:9]:
            self.check([
                (("count", box), 0), (("sum", box), 0), (("least", box), None), (("most", box), None), (("all", box), ()),
                (("first", box, 2), ()), (("best", box, 2), ()), (("near", box, (0, 0), 2), ()),
            ])

    def test_of_no_things(self):
        for d in range(1, 5):
            house, box = (d, ()), samples.whole(d)
            told = [answer(house, (word, box)) for word in ("count", "sum", "least", "most", "all")]
            self.assertEqual(told, [0, 0, None, None, ()])
            for ask in (("first", box, 1), ("best", box, 1), ("near", box, (0,) * d, 1)):
                self.assertEqual(answer(house, ask), ())

    def test_places_rise_as_tuples(self):
        house = (3, ((0, (1, 0, 0), 0), (1, (0, 9, 9), 0), (2, (0, 9, -9), 0), (3, (0, 10, -99), 0), (4, (0, 9, -9), 0)))
        self.assertEqual(answer(house, ("all", samples.whole(3))), (2, 4, 1, 3, 0))
        self.assertEqual(answer(house, ("first", samples.whole(3), 4)), (2, 4, 1, 3))

    def test_steps_count_all_numbers(self):
        house = (4, ((0, (3, 0, 0, 0), 0), (1, (1, 1, -1, -1), 0), (2, (0, 0, 0, -3), 0), (3, (-1, 0, 0, 1), 0)))
        self.assertEqual(answer(house, ("near", samples.whole(4), (0, 0, 0, 0), 9)), (3, 0, 2, 1))

    def test_like_worths_the_least_name(self):
        house = (1, ((3, (9,), 5), (4, (8,), -5), (5, (0,), -5), (8, (1,), 5)))
        box = samples.whole(1)
        self.assertEqual([answer(house, (word, box)) for word in ("least", "most")], [4, 3])
        self.assertEqual(answer(house, ("best", box, 4)), (3, 8, 4, 5))
        # Only what fits the box counts: the least name of those.
        self.assertEqual(answer(house, ("most", (((0, True), (8, True)),))), 8)
        self.assertEqual(answer(house, ("least", ((None, (7, True)),))), 5)


class ThroughAllThings(unittest.TestCase):
    def check(self, house, ask):
        told = answer(house, ask)
        self.assertEqual(told, plainly(house, ask), (house, ask))
        self.assertIs(type(told), type(plainly(house, ask)))
        if type(told) is tuple:
            self.assertEqual({type(name) for name in told} - {int}, set())
        self.assertEqual(answer(house, ask), told)

    def test_count_sum_least_most_all(self):
        dice = random.Random(20)
        for house in houses(dice):
            for box in some_boxes(dice, house):
                for word in ("count", "sum", "least", "most", "all"):
                    self.check(house, (word, box))

    def test_first_best_near(self):
        dice = random.Random(21)
        for house in houses(dice):
            many = len(house[1])
            for box in some_boxes(dice, house)[::2]:
                for k in (0, 1, 2, many // 2, many, many + 1, samples.BIG):
                    self.check(house, ("first", box, k))
                    self.check(house, ("best", box, k))
                for place in some_places(dice, house):
                    for k in (0, 1, 2, many // 2, many + 1):
                        self.check(house, ("near", box, place, k))

    def test_many_boxes_of_one_house(self):
        dice = random.Random(22)
        for d in range(1, 5):
            house = samples.made_house(dice, d, 12, range(-3, 4), range(-2, 3))
            for box in samples.edge_boxes(d) + samples.boxes(dice, d, 60, range(-4, 5)):
                for ask in (("count", box), ("sum", box), ("least", box), ("most", box), ("all", box)):
                    self.check(house, ask)
                self.check(house, ("first", box, 3))
                self.check(house, ("best", box, 3))
                self.check(house, ("near", box, (0,) * d, 3))

    def test_of_k_are_the_first_k_of_those_of_more(self):
        dice = random.Random(23)
        for d in range(1, 5):
            house = samples.made_house(dice, d, 30, range(-2, 3), range(-1, 2))
            for box in [samples.whole(d)] + samples.boxes(dice, d, 5, range(-2, 3)):
                fit = answer(house, ("count", box))
                for make in (
                    lambda k: ("first", box, k), lambda k: ("best", box, k), lambda k: ("near", box, (1,) * d, k),
                ):
                    more = answer(house, make(99))
                    self.assertEqual(len(more), fit)
                    for k in range(0, 33):
                        self.assertEqual(answer(house, make(k)), more[:k])
                self.assertEqual(answer(house, ("first", box, 99)), answer(house, ("all", box)))

    def test_the_first_of_the_best_is_the_most(self):
        dice = random.Random(24)
        for house in houses(dice):
            for box in some_boxes(dice, house):
                best = answer(house, ("best", box, 1))
                self.assertEqual(best[0] if best else None, answer(house, ("most", box)))


if __name__ == "__main__":
    unittest.main()
