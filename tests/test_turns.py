"""[12]: trees by turns."""

import copy
import itertools
import random
import unittest

import samples
from boxlayers.turns import is_turns, turns


def is_tree(house, thing):
    """Whether thing is a tree of some things, as the document tells it."""
    if type(thing) is not tuple or len(thing) != 4 or type(thing[0]) is not tuple or not thing[0]:
        return False
    names, bounds, low, high = thing
    things = {each[0]: each for each in house[1]}
    if any(type(name) is not int or name not in things for name in names):
        return False
    if list(names) != sorted(set(names)):
        return False
    if not samples.is_like(bounds, samples.bounds_of([things[name] for name in names])):
        return False
    if len(names) == 1:
        return low is None and high is None
    return is_tree(house, low) and is_tree(house, high) and sorted(low[0] + high[0]) == list(names)


def is_tree_of_all(house, thing):
    if not house[1]:
        return thing is None
    return is_tree(house, thing) and len(thing[0]) == len(house[1])


class ByHand(unittest.TestCase):
    house = (2, ((0, (4, 1), 10), (3, (5, 1), -2), (8, (0, 2), 7)))

    def test_two_numbers(self):
        low = ((0, 8), ((0, 4), (1, 2)), ((0,), ((4, 4), (1, 1)), None, None), ((8,), ((0, 0), (2, 2)), None, None))
        high = ((3,), ((5, 5), (1, 1)), None, None)
        self.assertEqual(turns(self.house), ((0, 3, 8), ((0, 5), (1, 2)), low, high))

    def test_each_number_has_its_turn(self):
        places = [(1, 2, 2, 1), (2, 1, 2, 2), (1, 1, 1, 1), (2, 2, 1, 2), (1, 2, 1, 1), (1, 1, 2, 1), (2, 1, 1, 2), (2, 2, 2, 2)]
        for d, names in ((1, (5, 4, 2, 0)), (2, (5, 2)), (3, (2,)), (4, (2,))):
            house = (d, tuple((name, place[:d], 0) for name, place in enumerate(places)))
            low, level = turns(house), 0
            while len(low[0]) > len(names):
                # The low one has the first half by the number whose turn it is.
                row = samples.in_order([house[1][name] for name in low[0]], level % d)
                self.assertEqual(low[2][0], tuple(sorted(samples.names_of(row[:len(row) // 2]))))
                low, level = low[2], level + 1
            self.assertEqual(low[0], tuple(sorted(names)))

    def test_low_has_one_more(self):
        for d in range(1, 5):
            for many in range(2, 12):
                names, bounds, low, high = turns((d, tuple((name, (name,) * d, 0) for name in range(many))))
                self.assertEqual((len(low[0]), len(high[0])), ((many + 1) // 2, many // 2))

    def test_one_thing(self):
        self.assertEqual(turns((3, ((6, (1, -2, 3), 5),))), ((6,), ((1, 1), (-2, -2), (3, 3)), None, None))

    def test_no_things(self):
        for d in range(1, 5):
            self.assertIsNone(turns((d, ())))
            self.assertIs(is_turns((d, ()), None), True)


class Turns(unittest.TestCase):
    def test_as_the_document_tells(self):
        for house in samples.some_houses(random.Random(90), (0, 1, 2, 3, 4, 5, 9, 17, 30)):
            told = turns(house)
            self.assertTrue(samples.is_like(told, samples.turned_tree(house)), house)
            self.assertTrue(samples.is_like(turns(house), told))

    def test_a_hundred_things_and_more(self):
        dice = random.Random(91)
        for d, many in ((1, 100), (1, 300), (2, 300), (3, 100), (4, 60)):
            house = samples.made_house(dice, d, many, range(-30, 31))
            self.assertTrue(samples.is_like(turns(house), samples.turned_tree(house)))
            self.assertIs(is_turns(house, turns(house)), True)

    def test_worths_change_nothing(self):
        dice = random.Random(92)
        for house in samples.some_houses(dice, (2, 9)):
            other = (house[0], tuple((name, place, dice.randint(-9, 9)) for name, place, worth in house[1]))
            self.assertEqual(turns(other), turns(house))
            self.assertIs(is_turns(other, turns(house)), True)


class IsTurns(unittest.TestCase):
    def test_what_turns_tells(self):
        for house in samples.some_houses(random.Random(93)):
            self.assertIs(is_turns(house, turns(house)), True)
            self.assertIs(is_turns(house, None), house[1] == ())

    def test_any_other_splits(self):
        dice = random.Random(94)
        for house in samples.some_houses(dice):
            for tree in (samples.any_tree(dice, house), samples.thin_tree(house), samples.thin_tree(house, high=True)):
                self.assertIs(is_turns(house, tree), True)

    def test_all_splits_of_three_things(self):
        house = (1, ((1, (5,), 0), (2, (3,), 0), (7, (4,), 0)))
        for order in itertools.permutations(house[1]):
            one, two, three = [samples.parted_tree([thing], None) for thing in order]
            pair = (tuple(sorted(one[0] + two[0])), samples.bounds_of(order[:2]), one, two)
            for halves in ((pair, three), (three, pair)):
                self.assertIs(is_turns(house, ((1, 2, 7), ((3, 5),)) + halves), True)

    def test_as_deep_as_there_are_things(self):
        for many in (100, 300):
            house = samples.made_house(random.Random(95), 2, many)
            for high in (False, True):
                self.assertIs(is_turns(house, samples.thin_tree(house, high)), True)

    def test_low_and_high_exchanged(self):
        for house in samples.some_houses(random.Random(96), (2, 5)):
            names, bounds, low, high = turns(house)
            self.assertIs(is_turns(house, (names, bounds, high, low)), True)

    def test_the_tree_of_another_house(self):
        dice = random.Random(97)
        for d in range(1, 5):
            for many in (1, 2, 5, 9):
                things = samples.made_house(dice, d, many, range(-4, 5))[1]
                moved = things[:-1] + ((things[-1][0], (99,) * d, 0),)
                renamed = things[:-1] + ((things[-1][0] + 1, things[-1][1], 0),)
                more = things + ((99, (0,) * d, 0),)
                for other in (moved, renamed, more, things[1:], things[:-1], ()):
                    self.assertIs(is_turns((d, things), turns((d, other))), False)
                wider = (d + 1, tuple((name, place + (0,), worth) for name, place, worth in things))
                self.assertIs(is_turns((d, things), turns(wider)), False)
                self.assertIs(is_turns(wider, turns((d, things))), False)

    def test_names_that_are_not_parted_once_each(self):
        house = (1, ((0, (1,), 0), (1, (1,), 0), (2, (1,), 0)))
        leaf = {name: ((name,), ((1, 1),), None, None) for name in (0, 1, 2, 3)}
        pair = {names: (names, ((1, 1),), leaf[names[0]], leaf[names[1]]) for names in ((0, 1), (0, 2), (1, 2))}
        top = ((0, 1, 2), ((1, 1),))
        for halves in itertools.product(list(leaf.values()) + list(pair.values()) + [None], repeat=2):
            both = [name for half in halves if half for name in half[0]]
            just = None not in halves and sorted(both) == [0, 1, 2]
            self.assertIs(is_turns(house, top + halves), just, halves)
        whole = top + (pair[(0, 1)], leaf[2])
        empty = ((), ((1, 1),), None, None)
        for halves in ((whole, None), (None, whole), (whole, empty), (empty, whole), (whole, whole), (None, None)):
            self.assertIs(is_turns(house, top + halves), False)
        for tree in (leaf[0], pair[(0, 1)], empty, ((0, 1, 2), ((1, 1),), None, None)):
            self.assertIs(is_turns(house, tree), False)

    def test_one_part_otherwise(self):
        dice = random.Random(98)
        for d, many in ((1, 1), (1, 2), (1, 6), (2, 1), (2, 5), (3, 3), (4, 2)):
            for numbers in (range(3, 4), range(-9, 10)):
                house = samples.made_house(dice, d, many, numbers)
                for tree in samples.both_trees(dice, house):
                    for other in samples.spoiled(tree):
                        self.assertIs(is_turns(house, other), False)
                    for other in samples.put_otherwise(tree, samples.changes):
                        self.assertIs(is_turns(house, other), is_tree_of_all(house, other))

    def test_bounds_of_another_tree_and_trees_of_another_place(self):
        dice = random.Random(99)
        seen = []
        for d, many in ((1, 5), (2, 5), (3, 4)):
            house = samples.made_house(dice, d, many, range(-9, 10))
            tree = samples.any_tree(dice, house)
            within = samples.trees_within(tree)
            for at in range(4):
                others = [each[at] for each in within]
                for other in samples.put_otherwise(tree, lambda part: self.with_part(part, at, others)):
                    seen.append(is_turns(house, other))
                    self.assertIs(seen[-1], is_tree_of_all(house, other))
            for other in samples.put_otherwise(tree, lambda part: within if part in within else []):
                self.assertIs(is_turns(house, other), is_tree_of_all(house, other))
        self.assertEqual(set(seen), {True, False})

    def with_part(self, part, at, others):
        """The part, where it is a tree, with one of its four put as each of the others."""
        if type(part) is not tuple or len(part) != 4:
            return []
        return [part[:at] + (other,) + part[at + 1:] for other in others]

    def test_two_parts_otherwise(self):
        dice = random.Random(100)
        for d, many in ((1, 4), (2, 3), (3, 2)):
            house = samples.made_house(dice, d, many, range(2, 4))
            once = samples.put_otherwise(turns(house), samples.changes)
            for each in range(60):
                for other in dice.sample(samples.put_otherwise(dice.choice(once), samples.changes), 5):
                    self.assertIs(is_turns(house, other), is_tree_of_all(house, other))

    def test_things_of_other_kinds(self):
        for d in range(1, 5):
            for many in (0, 1, 2, 4):
                house = samples.made_house(random.Random(101), d, many)
                for thing in samples.odd_things():
                    self.assertIs(is_turns(house, thing), thing is None and many == 0)
                    for other in ((thing,), (thing,) * 4, [thing] * 4, ((), thing, thing, thing)):
                        self.assertIs(is_turns(house, other), False)

    def test_many_within_one_another(self):
        # Each tuple holds the one before twice, so that going through all of it would never end.
        house = samples.made_house(random.Random(102), 2, 4)
        names, bounds, low, high = turns(house)
        for top in ((None, None), (names, bounds), (low[0], low[1])):
            thing = None
            for level in range(39):
                thing = top + (thing, thing)
            self.assertIs(is_turns(house, thing), False)
            self.assertIs(is_turns(house, (names, bounds, thing, thing)), False)
            self.assertIs(is_turns(house, (thing, thing, thing, thing)), False)

    def test_what_is_handed_in_stays(self):
        house = samples.made_house(random.Random(103), 2, 4)
        names, bounds, low, high = turns(house)
        for thing in ([names, bounds, low, high], (list(names), bounds, low, high), (names, bounds, list(low), {1: [high]})):
            before = copy.deepcopy((house, thing))
            self.assertIs(is_turns(house, thing), False)
            self.assertIs(is_turns(house, thing), False)
            self.assertEqual((house, thing), before)


if __name__ == "__main__":
    unittest.main()
