"""[14]: rows with marks."""

import copy
import random
import unittest

import samples
from boxlayers.marks import is_marked, marked

COUNTS = (0, 1, 2, 3, 4, 5, 9, 16, 17, 33, 60)


def plainly(things):
    """The marked row of the things, as the document tells it; None of no things."""
    if not things:
        return None
    row = samples.in_order(things, 1)
    numbers = [thing[1][0] for thing in things]
    ends = (min(numbers), max(numbers))
    sums = tuple(sum(thing[2] for thing in row[:many]) for many in range(len(row) + 1))
    if len(row) == 1:
        return (samples.names_of(row), ends, (), sums, None, None)
    across = samples.in_order(things, 0)
    half = samples.halved_up(len(things))
    low, high = across[:half], across[half:]
    marks = tuple(sum(1 for thing in row[:many] if thing in low) for many in range(len(row) + 1))
    return (samples.names_of(row), ends, marks, sums, plainly(low), plainly(high))


def houses(dice, counts=COUNTS):
    return samples.some_houses(dice, counts, ds=(2,))


class ByHand(unittest.TestCase):
    house = (2, ((0, (4, 1), 10), (3, (5, 1), -2), (8, (0, 2), 7)))

    def test_three_things(self):
        leaf = {
            0: ((0,), (4, 4), (), (0, 10), None, None), 3: ((3,), (5, 5), (), (0, -2), None, None),
            8: ((8,), (0, 0), (), (0, 7), None, None),
        }
        low = ((0, 8), (0, 4), (0, 0, 1), (0, 10, 17), leaf[8], leaf[0])
        self.assertEqual(marked(self.house), ((0, 3, 8), (0, 5), (0, 1, 1, 2), (0, 10, 8, 15), low, leaf[3]))

    def test_alike_in_a_number(self):
        # Alike in number 1: the row goes by number 0; alike in number 0: low has those of lesser number 1.
        house = (2, ((0, (2, 5), 1), (1, (1, 5), 1)))
        self.assertEqual(marked(house)[:4], ((1, 0), (1, 2), (0, 1, 1), (0, 1, 2)))
        house = (2, ((0, (2, 5), 1), (1, (2, 4), 1), (2, (2, 5), 1)))
        self.assertEqual(marked(house)[:3], ((1, 0, 2), (2, 2), (0, 1, 2, 2)))
        self.assertEqual((marked(house)[4][0], marked(house)[5][0]), ((1, 0), (2,)))

    def test_no_things(self):
        self.assertIsNone(marked((2, ())))
        self.assertIs(is_marked((2, ()), None), True)


class Marked(unittest.TestCase):
    def test_as_the_document_tells(self):
        for house in houses(random.Random(150)):
            told = marked(house)
            self.assertTrue(samples.is_like(told, plainly(house[1])), house)
            self.assertTrue(samples.is_like(marked(house), told))

    def test_as_many_things_as_told(self):
        house = samples.made_house(random.Random(151), 2, 300, range(-40, 41), (-samples.BIG, samples.BIG, 0, 1))
        self.assertTrue(samples.is_like(marked(house), plainly(house[1])))
        self.assertIs(is_marked(house, marked(house)), True)

    def test_lengths(self):
        for house in houses(random.Random(152), (1, 2, 9, 30)):
            waiting = [marked(house)]
            for row, ends, marks, sums, low, high in waiting:
                self.assertEqual(len(sums), len(row) + 1)
                self.assertEqual(len(marks), 0 if len(row) == 1 else len(row) + 1)
                waiting += [half for half in (low, high) if half is not None]


class IsMarked(unittest.TestCase):
    def test_what_marked_tells(self):
        for house in houses(random.Random(153)):
            self.assertIs(is_marked(house, marked(house)), True)
            self.assertIs(is_marked(house, plainly(house[1])), True)
            self.assertIs(is_marked(house, None), house[1] == ())

    def test_one_part_otherwise(self):
        dice = random.Random(154)
        for house in houses(dice, (1, 2, 3, 5)):
            tree = marked(house)
            # Of one name marks is (), and () with a part left out is itself.
            for other in samples.spoiled(tree) + samples.put_otherwise(tree, samples.changes):
                self.assertIs(is_marked(house, other), samples.is_like(other, tree))

    def test_two_parts_otherwise(self):
        dice = random.Random(155)
        for house in houses(dice, (1, 3, 6)):
            tree = marked(house)
            once = samples.put_otherwise(tree, samples.changes)
            for each in range(40):
                for other in dice.sample(samples.put_otherwise(dice.choice(once), samples.changes), 5):
                    self.assertIs(is_marked(house, other), samples.is_like(other, tree))

    def test_low_and_high_exchanged_and_others_put_there(self):
        dice = random.Random(156)
        for house in houses(dice, (2, 3, 6)):
            tree = marked(house)
            within = [tree]
            for each in within:
                within += [half for half in each[4:] if half is not None]
            for other in samples.put_otherwise(tree, lambda part: within + [None] if part in within else []):
                self.assertIs(is_marked(house, other), samples.is_like(other, tree))
            for other in samples.put_otherwise(tree, lambda part: [part[:4] + part[:3:-1]] if part in within else []):
                self.assertIs(is_marked(house, other), samples.is_like(other, tree))
            self.assertIs(is_marked(house, tree[:4] + (tree[5], tree[4])), False)

    def test_parted_elsewhere(self):
        house = (2, tuple((name, (name, name), 1) for name in range(3)))
        leaf = {name: plainly([house[1][name]]) for name in range(3)}
        pair = plainly(house[1][1:])
        tree = ((0, 1, 2), (0, 2), (0, 1, 1, 1), (0, 1, 2, 3), leaf[0], pair)
        self.assertIs(is_marked(house, tree), False)

    def test_the_marked_row_of_another_house(self):
        dice = random.Random(157)
        for house in houses(dice, (1, 2, 5, 12)):
            things = house[1]
            at = dice.randrange(len(things))
            name, place, worth = things[at]
            last = things[-1][0]
            others = [
                (name, place, worth + 1), (name, place, -worth - 1), (name, (place[0] + 1, place[1]), worth),
                (name, (samples.BIG + 1, place[1]), worth),
            ]
            for other in others:
                tree = marked((2, things[:at] + (other,) + things[at + 1:]))
                self.assertIs(is_marked(house, tree), samples.is_like(tree, marked(house)))
            self.assertIs(is_marked(house, marked((2, things[:at] + (others[0],) + things[at + 1:]))), False)
            self.assertIs(is_marked(house, marked((2, things[:at] + (others[3],) + things[at + 1:]))), False)
            renamed = (last + 1,) + things[-1][1:]
            for other in (things[:-1], things[1:], things + ((last + 1, (0, 0), 0),), things[:-1] + (renamed,), ()):
                self.assertIs(is_marked(house, marked((2, other))), False)

    def test_things_of_other_kinds(self):
        for many in (0, 1, 2, 4):
            house = samples.made_house(random.Random(158), 2, many)
            for thing in samples.odd_things():
                self.assertIs(is_marked(house, thing), thing is None and many == 0)
                for other in ((thing,), (thing,) * 6, [thing] * 6, ((), thing, thing, thing, thing, thing)):
                    self.assertIs(is_marked(house, other), False)

    def test_many_within_one_another(self):
        # Each tuple holds the one before twice, so that going through all of it would never end.
        house = samples.made_house(random.Random(159), 2, 4)
        for top in (marked(house)[:4], (None,) * 4):
            thing = None
            for level in range(39):
                thing = top + (thing, thing)
            self.assertIs(is_marked(house, thing), False)
            self.assertIs(is_marked(house, (thing,) * 6), False)

    def test_what_is_handed_in_stays(self):
        house = samples.made_house(random.Random(160), 2, 4)
        row, ends, marks, sums, low, high = marked(house)
        for thing in ([row, ends, marks, sums, low, high], (list(row), ends, marks, sums, low, {1: [high]})):
            before = copy.deepcopy((house, thing))
            self.assertIs(is_marked(house, thing), False)
            self.assertIs(is_marked(house, thing), False)
            self.assertEqual((house, thing), before)


if __name__ == "__main__":
    unittest.main()
