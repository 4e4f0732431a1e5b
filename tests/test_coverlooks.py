"""[18]: whether a thing is a cover; with [3] (c), taken just where the parts hold each thing once, as they tell."""

import copy
import itertools
import random
import unittest

import samples
from boxlayers.boxes import plain_box
from boxlayers.coverlooks import shows_cover
from boxlayers.covers import by_cover, cover
from boxlayers.answers import answer
from boxlayers.turns import turns


def is_part_so(house, tree, box, part):
    """Whether a part of the form of [18] tells what is so, by each thing of the tree there."""
    below = samples.at_path(tree, part[0])
    if below is None:
        return False
    places = [place for name, place, worth in house[1] if name in below[0]]
    if part[1] == "in":
        return all(samples.place_fits(box, place) for place in places)
    path, word, i, side = part
    least, greatest = plain_box(box)[i]
    if (least, greatest) == (1, 0):
        return True
    if side == 0:
        return least is not None and all(place[i] < least for place in places)
    return greatest is not None and all(place[i] > greatest for place in places)


def is_cover(house, tree, box, parts):
    """Whether parts of that form are a cover."""
    if not all(is_part_so(house, tree, box, part) for part in parts):
        return False
    names = [name for part in parts for name in samples.at_path(tree, part[0])[0]]
    return sorted(names) == list(samples.names_of(house[1]))


class ByHand(unittest.TestCase):
    # Low has 0 and 8, in low low has 0.
    house = (2, ((0, (4, 1), 10), (3, (5, 1), -2), (8, (0, 2), 7)))
    box = (((0, True), (5, False)), (None, (2, True)))

    def shows(self, thing, box=None):
        return shows_cover(self.house, turns(self.house), box or self.box, thing)

    def test_covers(self):
        for thing in [
            (((0,), "in"), ((1,), "out", 0, 1)),
            (((1,), "out", 0, 1), ((0,), "in")),
            (((0, 0), "in"), ((0, 1), "in"), ((1,), "out", 0, 1)),
            (((0, 1), "in"), ((1,), "out", 0, 1), ((0, 0), "in")),
        ]:
            self.assertIs(self.shows(thing), True, thing)

    def test_none(self):
        for thing in [
            (((0,), "in"),),
            (((1,), "out", 0, 1),),
            (((0,), "in"), ((0,), "in"), ((1,), "out", 0, 1)),
            (((0,), "in"), ((0, 0), "in"), ((1,), "out", 0, 1)),
            (((0,), "in"), ((1,), "out", 0, 1), ((), "in")),
            (((), "in"),), (((), "out", 0, 1),), (((), "far"),),
            (((0,), "out", 0, 1), ((1,), "in")),
            (((0,), "in"), ((1,), "in")),
            (((0,), "in"), ((1,), "out", 0, 0)), (((0,), "in"), ((1,), "out", 1, 1)), (((0,), "in"), ((1,), "out", 1, 0)),
            (((0,), "in"), ((1,), "out", 2, 1)), (((0,), "in"), ((1,), "out", -2, 1)), (((0,), "in"), ((1,), "out", 0, 2)),
            (((0,), "in"), ((1,), "out", 0, -1)), (((0,), "in"), ((1,), "out", False, True)),
            (((0,), "in"), ((1,), "out", 0, True)), (((0,), "in"), ((1,), "out", False, 1)),
            (((0,), "in"), ((1, 0), "out", 0, 1)), (((0,), "in"), ((2,), "out", 0, 1)), (((0,), "in"), ((-1,), "out", 0, 1)),
            (((False,), "in"), ((True,), "out", 0, 1)), (((0,), "in"), ((True,), "out", 0, 1)),
            (([0], "in"), ((1,), "out", 0, 1)), (((0,), "in"), [(1,), "out", 0, 1]), [((0,), "in"), ((1,), "out", 0, 1)],
            (((0,), "far"), ((1,), "out", 0, 1)), (((0,), "in"), ((1,), "far")), (((0,), "In"), ((1,), "out", 0, 1)),
            (((0,), "in", 0, 1), ((1,), "out", 0, 1)), (((0,), "in"), ((1,), "out")), (((0,), "in"), ((1,), "out", 0)),
            (((0,), "in"), ((1,), "out", 0, 1, 0)), (((0,), "in"), ((1,), "out", 0, 1), ()), ((0, "in"), ((1,), "out", 0, 1)),
            (), ((),), None, True, False, 0, "in", ((0,), "in"),
        ]:
            self.assertIs(self.shows(thing), False, thing)

    def test_the_whole_box(self):
        whole = samples.whole(2)
        self.assertIs(self.shows((((), "in"),), whole), True)
        self.assertIs(self.shows((((1,), "in"), ((0, 1), "in"), ((0, 0), "in")), whole), True)
        self.assertIs(self.shows((((1,), "in"), ((0, 1), "in"), ((0, 0), "out", 0, 0)), whole), False)

    def test_the_empty_box(self):
        for span in (((1, True), (0, True)), ((7, False), (8, False)), ((3, True), (3, False))):
            for box in ((span, (None, None)), ((None, None), span), (span, span)):
                for i, side in itertools.product((0, 1), repeat=2):
                    self.assertIs(self.shows((((), "out", i, side),), box), True)
                    self.assertIs(self.shows((((0,), "out", i, side), ((1,), "out", 1 - i, 1 - side)), box), True)
                for i, side in ((2, 0), (0, 2), (-1, 0), (0, -1), (True, 0), (0, False), (None, 0), (0, None)):
                    self.assertIs(self.shows((((), "out", i, side),), box), False)
                self.assertIs(self.shows((((), "in"),), box), False)
                self.assertIs(self.shows((((0,), "out", 0, 0), ((1,), "in")), box), False)

    def test_of_no_tree(self):
        for d in range(1, 5):
            for box in samples.edge_boxes(d):
                self.assertIs(shows_cover((d, ()), None, box, ()), True)
                for thing in ((((), "in"),), (((), "out", 0, 0),), (((0,), "in"),), ((),), [], None, False, 0, "", {}, set()):
                    self.assertIs(shows_cover((d, ()), None, box, thing), False)
                for thing in samples.odd_things():
                    self.assertIs(shows_cover((d, ()), None, box, thing), type(thing) is tuple and len(thing) == 0)


class ShowsCover(unittest.TestCase):
    def test_all_rows_of_parts_of_small_trees(self):
        dice = random.Random(200)
        seen = {True: 0, False: 0}
        for d, many, most in ((1, 1, 3), (1, 2, 3), (2, 2, 2), (1, 3, 3)):
            for numbers in (range(0, 1), range(-1, 2)):
                house = samples.made_house(dice, d, many, numbers)
                tree = samples.any_tree(dice, house)
                parts = samples.all_parts(tree, d)
                for box in samples.asked_boxes(dice, house, 3)[:2] + samples.asked_boxes(dice, house, 3)[-2:]:
                    for length in range(most + 1):
                        for row in itertools.product(parts, repeat=length):
                            told = shows_cover(house, tree, box, row)
                            self.assertIs(told, is_cover(house, tree, box, row), (house, box, row))
                            seen[told] += 1
        self.assertGreater(min(seen.values()), 50)

    def test_of_what_cover_tells_in_any_order_and_parted_further(self):
        dice = random.Random(201)
        for house in samples.some_houses(dice):
            for tree in samples.both_trees(dice, house):
                for box in samples.asked_boxes(dice, house, 4):
                    parts, plain = cover(house, tree, box), plain_box(box)
                    mixed = tuple(dice.sample(parts, len(parts)))
                    further = [samples.parted_further(dice, tree, parts, plain, often) for often in (0, 0.3, 0.7, 1)]
                    for each in [parts, parts[::-1], mixed] + further:
                        self.assertIs(shows_cover(house, tree, box, each), True, (house, box, each))

    def test_rows_of_other_parts(self):
        dice = random.Random(202)
        for house in samples.some_houses(dice, (1, 2, 3, 6, 13)):
            for tree in samples.both_trees(dice, house):
                for box in samples.asked_boxes(dice, house, 2):
                    parts = samples.parted_further(dice, tree, cover(house, tree, box), plain_box(box), 0.2)
                    others = samples.all_parts(tree, house[0])
                    for each in range(25):
                        at = dice.randrange(len(parts))
                        other = dice.choice(others)
                        kept = parts[at][:1] + other[1:]
                        for row in (
                            parts[:at] + parts[at + 1:], parts + parts[at:at + 1], parts + (other,),
                            parts[:at] + (other,) + parts[at + 1:], parts[:at] + (kept,) + parts[at + 1:],
                        ):
                            told = shows_cover(house, tree, box, row)
                            self.assertIs(told, is_cover(house, tree, box, row), (house, box, row))

    def test_a_part_left_out_or_twice_or_with_one_within(self):
        dice = random.Random(203)
        for house in samples.some_houses(dice, (1, 2, 6, 13)):
            tree = samples.any_tree(dice, house)
            for box in samples.asked_boxes(dice, house, 3):
                parts = cover(house, tree, box)
                for at, part in enumerate(parts):
                    self.assertIs(shows_cover(house, tree, box, parts[:at] + parts[at + 1:]), False)
                    self.assertIs(shows_cover(house, tree, box, parts + (part,)), False)
                    for turn in (0, 1):
                        within = (part[0] + (turn,),) + part[1:]
                        self.assertIs(shows_cover(house, tree, box, parts + (within,)), False)
                        self.assertIs(shows_cover(house, tree, box, parts[:at] + (within,) + parts[at + 1:]), False)
                        nowhere = (part[0] + (turn,) * 20,) + part[1:]
                        self.assertIs(shows_cover(house, tree, box, parts[:at] + (nowhere,) + parts[at + 1:]), False)
                        self.assertIs(shows_cover(house, tree, box, parts + (nowhere,)), False)

    def test_each_way_of_in_and_out(self):
        dice = random.Random(204)
        for house in samples.some_houses(dice, (1, 2, 6, 13)):
            tree = samples.any_tree(dice, house)
            for box in samples.asked_boxes(dice, house, 4):
                plain = plain_box(box)
                parts = samples.parted_further(dice, tree, cover(house, tree, box), plain, 0.4)
                for at, part in enumerate(parts):
                    bounds = samples.at_path(tree, part[0])[1]
                    ways = samples.ways_out(bounds, plain)
                    for way in itertools.product(range(-1, house[0] + 1), range(-1, 3)):
                        row = parts[:at] + ((part[0], "out") + way,) + parts[at + 1:]
                        self.assertIs(shows_cover(house, tree, box, row), way in ways, (house, box, row))
                    row = parts[:at] + ((part[0], "in"),) + parts[at + 1:]
                    self.assertIs(shows_cover(house, tree, box, row), part[1] == "in", (house, box, row))

    def test_one_part_otherwise(self):
        dice = random.Random(205)
        for house in samples.some_houses(dice, (1, 3, 6), (1, 2, 4)):
            tree = samples.any_tree(dice, house)
            for box in samples.asked_boxes(dice, house, 1):
                parts = cover(house, tree, box)
                for other in samples.spoiled(parts):
                    if not samples.is_like(other, parts):
                        self.assertIs(shows_cover(house, tree, box, other), False)

    def test_things_of_any_kind(self):
        dice = random.Random(206)
        for d in range(1, 5):
            house = samples.made_house(dice, d, 4)
            tree = turns(house)
            for box in samples.asked_boxes(dice, house, 1):
                for thing in samples.odd_things():
                    self.assertIs(shows_cover(house, tree, box, thing), False)
                    for within in ((thing,), (thing, thing), ((thing, "in"),), (((), thing),), ((thing, thing),)):
                        self.assertIs(shows_cover(house, tree, samples.whole(d), within), samples.is_like(within, (((), "in"),)))
                    for within in ((((thing,), "in"),), (((), "out", thing, 0),), (((), "out", 0, thing),)):
                        self.assertIs(shows_cover(house, tree, samples.whole(d), within), False)

    def test_a_thing_that_holds_itself_over_and_over(self):
        house = samples.made_house(random.Random(207), 2, 4)
        for make in (lambda part: (part, part), lambda part: (part,) * 50, lambda part: ((part, "in"), (part, "in"))):
            thing = ()
            for depth in range(20):
                thing = make(thing)
            self.assertIs(shows_cover(house, turns(house), samples.whole(2), thing), False)

    def test_as_deep_as_there_are_things(self):
        dice = random.Random(208)
        house = samples.made_house(dice, 2, 300, range(-50, 51))
        for tree in (samples.thin_tree(house), samples.thin_tree(house, high=True)):
            for box in samples.asked_boxes(dice, house, 3):
                parts = cover(house, tree, box)
                self.assertIs(shows_cover(house, tree, box, parts), True)
                self.assertIs(shows_cover(house, tree, box, parts[:-1]), False)
                further = samples.parted_further(dice, tree, parts, plain_box(box), 1)
                self.assertIs(shows_cover(house, tree, box, further), True)
                self.assertIs(shows_cover(house, tree, box, further + further[:1]), False)

    def test_what_is_shown_answers_as_all_things_do(self):
        dice = random.Random(209)
        for house in samples.some_houses(dice, (1, 2, 5)):
            tree = samples.any_tree(dice, house)
            others = samples.all_parts(tree, house[0])
            for box in samples.asked_boxes(dice, house, 2):
                for each in range(60):
                    row = tuple(dice.sample(others, dice.randint(1, min(4, len(others)))))
                    if shows_cover(house, tree, box, row):
                        for ask in samples.plain_asks(dice, box, 3):
                            self.assertEqual(by_cover(house, tree, box, row, ask), answer(house, ask))

    def test_what_is_handed_in_stays_and_asked_again_the_same_is_told(self):
        dice = random.Random(210)
        for house in samples.some_houses(dice, (0, 1, 9)):
            tree = turns(house)
            for box in samples.asked_boxes(dice, house, 2):
                parts = cover(house, tree, box)
                before = copy.deepcopy((house, tree, box, parts))
                for each in range(2):
                    self.assertIs(shows_cover(house=house, tree=tree, box=box, thing=parts), True)
                    self.assertIs(shows_cover(house, tree, box, list(parts)), False)
                self.assertTrue(samples.is_like((house, tree, box, parts), before))


if __name__ == "__main__":
    unittest.main()
