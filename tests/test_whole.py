"""[3]: what is promised over the whole program: ways, papers and kept houses held against one another."""

import random
import unittest

import samples
from boxlayers.answers import answer
from boxlayers.corners import Corners
from boxlayers.covers import by_cover, cover
from boxlayers.coverlooks import shows_cover
from boxlayers.drawing import drawn
from boxlayers.drawnlooks import shows_drawn
from boxlayers.drawnpapers import drawn_paper
from boxlayers.keeping import Kept, most_made
from boxlayers.layerasks import by_layers, most_layer_looks, taken_by_layers
from boxlayers.layers import is_layers, layers
from boxlayers.markasks import by_marks, kth_by_marks, most_mark_looks, taken_by_marks
from boxlayers.marks import is_marked, marked
from boxlayers.orders import order_by
from boxlayers.turnasks import by_turns, most_turn_looks, taken_by_turns
from boxlayers.turns import is_turns, turns


def kept_houses(dice, counts=(0, 1, 2, 5, 9, 20), ds=(1, 2, 3, 4)):
    """(kept, house): things came by rising names, some went, and came anew elsewhere."""
    for house in samples.some_houses(dice, counts, ds):
        d, things = house
        kept = Kept(d)
        for thing in things:
            kept.come(thing)
        for name, place, worth in dice.sample(things, len(things) // 2):
            kept.go(name)
            if dice.random() < 0.4:
                kept.come((name, place[::-1], -worth))
        yield kept, kept.house()


def asks_of(dice, house, many=2):
    """Asks of all eight words."""
    for box in samples.asked_boxes(dice, house, many):
        yield from samples.plain_asks(dice, box, len(house[1])) + samples.drawn_asks(dice, house, box)


def layers_of(dice, house):
    """The halved layers, and ones of any splits."""
    any_layers = samples.parted_layers(house[0], list(house[1]), lambda many: dice.randint(1, many - 1))
    return [layers(house), any_layers]


def answers_by_all_ways(dice, house, ask):
    """(way, answer) of each way that has the ask."""
    word, box = ask[:2]
    for tree in samples.both_trees(dice, house):
        yield "turns", by_turns(house, tree, ask)[0]
        if word in ("near", "best"):
            yield "drawn", drawn(house, tree, box, samples.kind_of(ask), ask[-1])[0]
            yield "paper", drawn_paper(house, tree, box, samples.kind_of(ask), ask[-1])[0]
        else:
            yield "cover", by_cover(house, tree, box, cover(house, tree, box), ask)
    if word not in ("near", "best"):
        for tree in layers_of(dice, house):
            yield "layers", by_layers(house, tree, ask)[0]
    if word in ("count", "sum"):
        at = ("count", "sum").index(word)
        if house[0] <= 3:
            yield "corners", Corners(house).ask(box)[at]
        if house[0] == 2:
            yield "marks", by_marks(house, marked(house), box)[at]


class EachWay(unittest.TestCase):
    """(a) and (b)."""

    def test_answers_as_all_things_do(self):
        dice = random.Random(300)
        for kept, house in kept_houses(dice, (0, 1, 2, 5, 9)):
            asks = list(asks_of(dice, house, 1))
            for ask in dice.sample(asks, 30):
                wanted = answer(house, ask)
                self.assertTrue(samples.is_like(kept.ask(ask)[0], wanted), (house, ask))
                for way, told in answers_by_all_ways(dice, house, ask):
                    self.assertTrue(samples.is_like(told, wanted), (way, house, ask))

    def test_kth_names_are_those_in_the_order_by_0(self):
        dice = random.Random(301)
        for kept, house in kept_houses(dice, (0, 1, 5, 20), (2,)):
            for box in samples.asked_boxes(dice, house, 2):
                fit = answer(house, ("all", box))
                in_order = [name for name in order_by(house, 0) if name in fit]
                for k in range(len(fit) + 2):
                    wanted = in_order[k] if k < len(fit) else None
                    self.assertEqual(kth_by_marks(house, marked(house), box, k)[0], wanted)

    def test_no_more_looks_than_told_and_as_many_corners(self):
        dice = random.Random(302)
        for kept, house in kept_houses(dice):
            d, many = house[0], len(house[1])
            for box in samples.asked_boxes(dice, house, 4):
                self.assertLessEqual(taken_by_turns(house, turns(house), box)[1], most_turn_looks(many, d))
                self.assertLessEqual(taken_by_layers(house, layers(house), box)[1], most_layer_looks(many, d))
                if d == 2:
                    self.assertLessEqual(taken_by_marks(house, marked(house), box)[1], most_mark_looks(many))
                if d <= 3:
                    corners = Corners(house)
                    ends = [end for span in box for end in span if end is not None]
                    if not ends:
                        self.assertEqual(corners.ask(box)[2], 2 ** d)

    def test_trees_told_are_trees(self):
        dice = random.Random(303)
        for kept, house in kept_houses(dice, (0, 1, 5, 9)):
            self.assertIs(is_turns(house, turns(house)), True)
            self.assertIs(is_layers(house, layers(house)), True)
            if house[0] == 2:
                self.assertIs(is_marked(house, marked(house)), True)


class Papers(unittest.TestCase):
    """(c)."""

    def test_covers_are_taken_and_answer_as_the_kept_house_does(self):
        dice = random.Random(304)
        for kept, house in kept_houses(dice):
            for tree in samples.both_trees(dice, house):
                for box in samples.asked_boxes(dice, house, 2):
                    parts = cover(house, tree, box)
                    self.assertIs(shows_cover(house, tree, box, parts), True)
                    for ask in samples.plain_asks(dice, box, len(house[1])):
                        self.assertEqual(by_cover(house, tree, box, parts, ask), kept.ask(ask)[0])

    def test_papers_are_taken_and_tell_what_the_kept_house_does(self):
        dice = random.Random(305)
        for kept, house in kept_houses(dice, (0, 1, 2, 5, 9)):
            for tree in samples.both_trees(dice, house):
                for box in samples.asked_boxes(dice, house, 1):
                    for ask in samples.drawn_asks(dice, house, box):
                        kind, k = samples.kind_of(ask), ask[-1]
                        paper = drawn_paper(house, tree, box, kind, k)
                        self.assertIs(shows_drawn(house, tree, box, kind, k, paper), True)
                        self.assertEqual(paper[0], kept.ask(ask)[0])
                        self.assertEqual(paper[0], answer(house, ask))

    def test_no_paper_of_one_box_is_taken_for_another_that_takes_other_things(self):
        dice = random.Random(306)
        for kept, house in kept_houses(dice, (2, 5, 9)):
            tree = turns(house)
            boxes = samples.asked_boxes(dice, house, 5)
            for one in boxes:
                parts = cover(house, tree, one)
                for other in boxes:
                    if answer(house, ("all", one)) != answer(house, ("all", other)):
                        self.assertIs(shows_cover(house, tree, other, parts), False)
                        paper = drawn_paper(house, tree, one, ("best",), 99)
                        self.assertIs(shows_drawn(house, tree, other, ("best",), 99, paper), False)


class ComingAndGoing(unittest.TestCase):
    """(d)."""

    def test_each_part_has_the_tree_of_its_things(self):
        # Of a part without gone ones, alone in its house, looks are those of the tree that turns tells.
        dice = random.Random(307)
        for house in samples.some_houses(dice, (1, 2, 4, 8)):
            kept = Kept(house[0])
            for thing in house[1]:
                kept.come(thing)
            self.assertEqual(len(kept.parts()), 1)
            for ask in asks_of(dice, house, 1):
                self.assertEqual(kept.ask(ask), by_turns(house, turns(house), ask))

    def test_looks_are_those_of_the_trees_of_all_parts(self):
        dice = random.Random(308)
        for kept, house in kept_houses(dice, (1, 2, 5, 9, 20)):
            d = house[0]
            names_there = samples.names_of(house[1])
            for box in samples.asked_boxes(dice, house, 2):
                # Parts that no thing went from have things as they are there.
                rows = [names for rank, names, gone in kept.parts()]
                if all(not any(gone) for rank, names, gone in kept.parts()):
                    self.assertEqual(sorted(name for names in rows for name in names), list(names_there))
                    parts = [(d, tuple(thing for thing in house[1] if thing[0] in names)) for names in rows]
                    looks = sum(taken_by_turns(part, turns(part), box)[1] for part in parts)
                    self.assertEqual(kept.ask(("count", box))[1], looks)
                most = sum(most_turn_looks(len(names), d) for names in rows)
                self.assertLessEqual(kept.ask(("count", box))[1], most)

    def test_no_more_was_made_than_told(self):
        dice = random.Random(309)
        for house in samples.some_houses(dice, (1, 2, 5, 9, 30)):
            kept, comings, goings = Kept(house[0]), 0, 0
            for thing in house[1] * 2:
                if thing[0] in samples.names_of(kept.house()[1]):
                    kept.go(thing[0])
                    goings += 1
                kept.come(thing)
                comings += 1
                self.assertLessEqual(kept.made(), most_made(comings, goings))
            self.assertEqual(kept.house(), house)


if __name__ == "__main__":
    unittest.main()
