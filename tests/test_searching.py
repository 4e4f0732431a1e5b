"""[8]: searching in rising rows, and the spans of pairs in them."""

import random
import unittest

import samples
from boxlayers.boxes import plain_box
from boxlayers.searching import search, span_in


class Watched(list):
    """A row that notes at which positions it is looked at."""

    def __init__(self, row):
        super().__init__(row)
        self.seen = []

    def __getitem__(self, at):
        self.seen.append(at)
        return super().__getitem__(at)


def middles(length, position):
    """The positions looked at until position is found in a row of that length, as the document tells it."""
    low, high, seen = 0, length, []
    while low != high:
        seen.append((low + high - (low + high) % 2) // 2)
        low, high = (seen[-1] + 1, high) if position > seen[-1] else (low, seen[-1])
    return seen


def rows(dice):
    for length in range(0, 71):
        yield tuple(range(0, 2 * length, 2))
        yield tuple(sorted(dice.randint(-length, length) for each in range(length)))
    yield (5,) * 33
    yield (-samples.BIG, -1, -1, 0, samples.BIG)


def numbers_for(row):
    """The numbers of the row, those beside them, ahead of all, behind all."""
    beside = {number + more for number in row[:4] + row[-4:] + row[::5] for more in (-1, 0, 1)}
    return sorted(beside | {-10 ** 9, 10 ** 9, 0, 1, -samples.BIG - 1, samples.BIG + 1})


class Search(unittest.TestCase):
    def test_by_hand(self):
        for row, number, told in [
            ((), 5, (0, 0)),
            ((5,), 4, (0, 1)), ((5,), 5, (0, 1)), ((5,), 6, (1, 1)),
            ((1, 3), 0, (0, 2)), ((1, 3), 1, (0, 2)), ((1, 3), 2, (1, 2)), ((1, 3), 3, (1, 2)), ((1, 3), 4, (2, 1)),
            ((1, 3, 5), 0, (0, 2)), ((1, 3, 5), 3, (1, 2)), ((1, 3, 5), 5, (2, 2)), ((1, 3, 5), 6, (3, 2)),
            ((1, 3, 5, 7), 1, (0, 3)), ((1, 3, 5, 7), 3, (1, 3)), ((1, 3, 5, 7), 5, (2, 2)), ((1, 3, 5, 7), 7, (3, 2)),
            ((1, 3, 5, 7), 9, (4, 2)), ((4, 4, 4, 4), 4, (0, 3)), ((4, 4, 4, 4), 5, (4, 2)), ((1, 4, 4, 9), 4, (1, 3)),
        ]:
            self.assertEqual(search(row, number), told, (row, number))

    def test_position_and_looks(self):
        for row in rows(random.Random(40)):
            for number in numbers_for(row):
                position = sum(1 for each in row if each < number)
                told = search(row, number)
                self.assertEqual(told, (position, len(middles(len(row), position))), (row, number))
                self.assertEqual([type(told), type(told[0]), type(told[1])], [tuple, int, int])
                self.assertEqual(search(row, number), told)

    def test_looks_are_those_that_are_told(self):
        for row in rows(random.Random(41)):
            for number in numbers_for(row)[::3]:
                watched = Watched(row)
                position, looks = search(watched, number)
                self.assertEqual(watched.seen, middles(len(row), position))
                self.assertEqual(len(watched.seen), looks)
                self.assertEqual(tuple(watched), row)


class SpanIn(unittest.TestCase):
    def test_by_hand(self):
        row = (1, 3, 3, 5)
        for pair, told in [
            ((None, None), (0, 4, 0)), ((3, None), (1, 4, 3)), ((None, 3), (0, 3, 2)), ((3, 3), (1, 3, 5)),
            ((2, 4), (1, 3, 5)), ((0, 9), (0, 4, 5)), ((None, 0), (0, 0, 3)), ((6, None), (4, 4, 2)), ((4, 4), (3, 3, 4)),
            ((1, 0), (0, 0, 6)), ((1, 1), (0, 1, 6)), ((5, 5), (3, 4, 4)),
        ]:
            self.assertEqual(span_in(row, pair), told, pair)

    def test_of_an_empty_row(self):
        for pair in ((None, None), (1, 0), (None, 7), (7, None), (7, 9)):
            self.assertEqual(span_in((), pair), (0, 0, 0))

    def test_of_none_no_looks(self):
        for row in rows(random.Random(42)):
            self.assertEqual(span_in(row, (None, None)), (0, len(row), 0))

    def test_of_the_empty_pair_both_are_looked_for(self):
        for row in rows(random.Random(43)):
            position = sum(1 for each in row if each < 1)
            self.assertEqual(span_in(row, (1, 0)), (position, position, 2 * len(middles(len(row), position))))

    def test_all_kinds_of_ends(self):
        for row in rows(random.Random(44)):
            choices = [None] + numbers_for(row)[::2]
            for least in choices:
                for greatest in choices:
                    if least is None or greatest is None or least <= greatest:
                        self.check(row, (least, greatest))

    def check(self, row, pair):
        least, greatest = pair
        begin = 0 if least is None else sum(1 for each in row if each < least)
        end = len(row) if greatest is None else sum(1 for each in row if each <= greatest)
        looks = 0 if least is None else len(middles(len(row), begin))
        looks += 0 if greatest is None else len(middles(len(row), end))
        self.assertEqual(span_in(row, pair), (begin, end, looks), (row, pair))

    def test_just_those_that_fit_lie_between(self):
        dice = random.Random(45)
        for row in rows(dice):
            for (span,) in samples.boxes(dice, 1, 6, range(-5, 6)):
                begin, end, looks = span_in(row, plain_box((span,))[0])
                self.assertEqual(row[begin:end], tuple(each for each in row if samples.number_fits(span, each)))


if __name__ == "__main__":
    unittest.main()
