"""[3]: what is promised over the whole program: ways, papers, kept and moved houses, texts held against one another."""

import random
import unittest

import samples
from boxlayers.answers import answer
from boxlayers.corners import Corners
from boxlayers.covers import by_cover, cover
from boxlayers.coverlooks import shows_cover
from boxlayers.desk import Desk
from boxlayers.drawing import drawn
from boxlayers.drawnlooks import shows_drawn
from boxlayers.drawnpapers import drawn_paper
from boxlayers.hanging import is_row, ran, ran_by
from boxlayers.keeping import Kept, most_made
from boxlayers.layerasks import by_layers, most_layer_looks, taken_by_layers
from boxlayers.layers import is_layers, layers
from boxlayers.markasks import by_marks, kth_by_marks, most_mark_looks, taken_by_marks
from boxlayers.marks import is_marked, marked
from boxlayers.moving import back, moved_box, moved_house, moved_place
from boxlayers.orders import order_by
from boxlayers.reading import read_ask, read_box, read_house
from boxlayers.showing import show_ask, show_box, show_house
from boxlayers.turnasks import by_turns, most_turn_looks, taken_by_turns
from boxlayers.turns import is_turns, turns


def kept_houses(dice, counts=(0, 1, 2, 5, 9, 20), ds=(1, 2, 3, 4)):
    """(kept, house): things came by rising names, some went, and came anew elsewhere."""
    for house in samples.some_houses(dice, counts, ds):
        d, things = house
        kept = Kept(d)
        for thing in things:
            kept.come(thing)
        for name, place, worth in dice.sample(things, len(things) // 2):
            kept.go(name)
            if dice.random() < 0.4:
                kept.come((name, place[::-1], -worth))
        yield kept, kept.house()


def asks_of(dice, house, many=2):
    """Asks of all eight words."""
    for box in samples.asked_boxes(dice, house, many):
        yield from samples.plain_asks(dice, box, len(house[1])) + samples.drawn_asks(dice, house, box)


def layers_of(dice, house):
    """The halved layers, and ones of any splits."""
    any_layers = samples.parted_layers(house[0], list(house[1]), lambda many: dice.randint(1, many - 1))
    return [layers(house), any_layers]


def answers_by_all_ways(dice, house, ask):
    """(way, answer) of each way that has the ask."""
    word, box = ask[:2]
    for tree in samples.both_trees(dice, house):
        yield "turns", by_turns(house, tree, ask)[0]
        if word in ("near", "best"):
            yield "drawn", drawn(house, tree, box, samples.kind_of(ask), ask[-1])[0]
            yield "paper", drawn_paper(house, tree, box, samples.kind_of(ask), ask[-1])[0]
        else:
            yield "cover", by_cover(house, tree, box, cover(house, tree, box), ask)
    if word not in ("near", "best"):
        for tree in layers_of(dice, house):
            yield "layers", by_layers(house, tree, ask)[0]
    if word in ("count", "sum"):
        at = ("count", "sum").index(word)
        if house[0] <= 3:
            yield "corners", Corners(house).ask(box)[at]
        if house[0] == 2:
            yield "marks", by_marks(house, marked(house), box)[at]


class EachWay(unittest.TestCase):
    """(a) and (b)."""

    def test_answers_as_all_things_do(self):
        dice = random.Random(300)
        for kept, house in kept_houses(dice, (0, 1, 2, 5, 9)):
            asks = list(asks_of(dice, house, 1))
            for ask in dice.sample(asks, 30):
                wanted = answer(house, ask)
                self.assertTrue(samples.is_like(kept.ask(ask)[0], wanted), (house, ask))
                for way, told in answers_by_all_ways(dice, house, ask):
                    self.assertTrue(samples.is_like(told, wanted), (way, house, ask))

    def test_kth_names_are_those_in_the_order_by_0(self):
        dice = random.Random(301)
        for kept, house in kept_houses(dice, (0, 1, 5, 20), (2,)):
            for box in samples.asked_boxes(dice, house, 2):
                fit = answer(house, ("all", box))
                in_order = [name for name in order_by(house, 0) if name in fit]
                for k in range(len(fit) + 2):
                    wanted = in_order[k] if k < len(fit) else None
                    self.assertEqual(kth_by_marks(house, marked(house), box, k)[0], wanted)

    def test_no_more_looks_than_told_and_as_many_corners(self):
        dice = random.Random(302)
        for kept, house in kept_houses(dice):
            d, many = house[0], len(house[1])
            for box in samples.asked_boxes(dice, house, 4):
                self.assertLessEqual(taken_by_turns(house, turns(house), box)[1], most_turn_looks(many, d))
                self.assertLessEqual(taken_by_layers(house, layers(house), box)[1], most_layer_looks(many, d))
                if d == 2:
                    self.assertLessEqual(taken_by_marks(house, marked(house), box)[1], most_mark_looks(many))
                if d <= 3:
                    corners = Corners(house)
                    ends = [end for span in box for end in span if end is not None]
                    if not ends:
                        self.assertEqual(corners.ask(box)[2], 2 ** d)

    def test_trees_told_are_trees(self):
        dice = random.Random(303)
        for kept, house in kept_houses(dice, (0, 1, 5, 9)):
            self.assertIs(is_turns(house, turns(house)), True)
            self.assertIs(is_layers(house, layers(house)), True)
            if house[0] == 2:
                self.assertIs(is_marked(house, marked(house)), True)


class Papers(unittest.TestCase):
    """(c)."""

    def test_covers_are_taken_and_answer_as_the_kept_house_does(self):
        dice = random.Random(304)
        for kept, house in kept_houses(dice):
            for tree in samples.both_trees(dice, house):
                for box in samples.asked_boxes(dice, house, 2):
                    parts = cover(house, tree, box)
                    self.assertIs(shows_cover(house, tree, box, parts), True)
                    for ask in samples.plain_asks(dice, box, len(house[1])):
                        self.assertEqual(by_cover(house, tree, box, parts, ask), kept.ask(ask)[0])

    def test_papers_are_taken_and_tell_what_the_kept_house_does(self):
        dice = random.Random(305)
        for kept, house in kept_houses(dice, (0, 1, 2, 5, 9)):
            for tree in samples.both_trees(dice, house):
                for box in samples.asked_boxes(dice, house, 1):
                    for ask in samples.drawn_asks(dice, house, box):
                        kind, k = samples.kind_of(ask), ask[-1]
                        paper = drawn_paper(house, tree, box, kind, k)
                        self.assertIs(shows_drawn(house, tree, box, kind, k, paper), True)
                        self.assertEqual(paper[0], kept.ask(ask)[0])
                        self.assertEqual(paper[0], answer(house, ask))

    def test_no_paper_of_one_box_is_taken_for_another_that_takes_other_things(self):
        dice = random.Random(306)
        for kept, house in kept_houses(dice, (2, 5, 9)):
            tree = turns(house)
            boxes = samples.asked_boxes(dice, house, 5)
            for one in boxes:
                parts = cover(house, tree, one)
                for other in boxes:
                    if answer(house, ("all", one)) != answer(house, ("all", other)):
                        self.assertIs(shows_cover(house, tree, other, parts), False)
                        paper = drawn_paper(house, tree, one, ("best",), 99)
                        self.assertIs(shows_drawn(house, tree, other, ("best",), 99, paper), False)


class ComingAndGoing(unittest.TestCase):
    """(d)."""

    def test_each_part_has_the_tree_of_its_things(self):
        # Of a part without gone ones, alone in its house, looks are those of the tree that turns tells.
        dice = random.Random(307)
        for house in samples.some_houses(dice, (1, 2, 4, 8)):
            kept = Kept(house[0])
            for thing in house[1]:
                kept.come(thing)
            self.assertEqual(len(kept.parts()), 1)
            for ask in asks_of(dice, house, 1):
                self.assertEqual(kept.ask(ask), by_turns(house, turns(house), ask))

    def test_looks_are_those_of_the_trees_of_all_parts(self):
        dice = random.Random(308)
        for kept, house in kept_houses(dice, (1, 2, 5, 9, 20)):
            d = house[0]
            names_there = samples.names_of(house[1])
            for box in samples.asked_boxes(dice, house, 2):
                # Parts that no thing went from have things as they are there.
                rows = [names for rank, names, gone in kept.parts()]
                if all(not any(gone) for rank, names, gone in kept.parts()):
                    self.assertEqual(sorted(name for names in rows for name in names), list(names_there))
                    parts = [(d, tuple(thing for thing in house[1] if thing[0] in names)) for names in rows]
                    looks = sum(taken_by_turns(part, turns(part), box)[1] for part in parts)
                    self.assertEqual(kept.ask(("count", box))[1], looks)
                most = sum(most_turn_looks(len(names), d) for names in rows)
                self.assertLessEqual(kept.ask(("count", box))[1], most)

    def test_no_more_was_made_than_told(self):
        dice = random.Random(309)
        for house in samples.some_houses(dice, (1, 2, 5, 9, 30)):
            kept, comings, goings = Kept(house[0]), 0, 0
            for thing in house[1] * 2:
                if thing[0] in samples.names_of(kept.house()[1]):
                    kept.go(thing[0])
                    goings += 1
                kept.come(thing)
                comings += 1
                self.assertLessEqual(kept.made(), most_made(comings, goings))
            self.assertEqual(kept.house(), house)


def hanging_row(dice, house):
    """A row in which boxes, places, names and k hang on answers ahead, of a house with things."""
    d, things = house
    whole = samples.whole(d)
    one, other = [dice.choice(things)[0] for each in range(2)]
    i = dice.randrange(d)
    # Ends at the numbers i of two things, then the box's least one and what is beside it.
    span = ((("of", 0, -1), True), (("of", 1, dice.randint(0, 3)), dice.random() < 0.5))
    box = whole[:i] + (span,) + whole[i + 1:]
    row = (("number", one, i), ("number", other, i), ("count", box), ("sum", box), ("least", whole), ("most", whole))
    row += (("worth", ("of", 4, 0)), ("number", ("of", 5, 0), i), ("all", box), ("first", box, ("of", 2, 0)))
    row += (("best", whole, ("of", 2, 1)), ("near", box, (("of", 0, 0),) * d, ("of", 2, 2)))
    narrow = tuple(((("of", 0, -3), True), (("of", 7, 3), False)) for each in range(d))
    return row + (("count", narrow), ("sum", narrow), ("least", narrow), ("near", narrow, (("of", 12, 0),) * d, 2))


class Hanging(unittest.TestCase):
    """(e)."""

    def test_each_way_comes_to_the_same(self):
        dice = random.Random(310)
        for kept, house in kept_houses(dice, (2, 5, 9)):
            for each in range(2):
                row = hanging_row(dice, house)
                self.assertIs(is_row(row, house[0]), True)
                answers = ran(house, row)
                for way in ("corners", "layers", "turns", "marks", "kept"):
                    self.assertTrue(samples.is_like(ran_by(way, house, row)[0], answers), (way, house, row))


class Moved(unittest.TestCase):
    """(f)."""

    def moved_ask(self, move, ask):
        if ask[0] == "near":
            return (ask[0], moved_box(move, ask[1]), moved_place(move, ask[2]), ask[3])
        return (ask[0], moved_box(move, ask[1])) + ask[2:]

    def test_each_way_answers_alike(self):
        dice = random.Random(311)
        for kept, house in kept_houses(dice, (0, 1, 2, 5, 9)):
            move = samples.some_move(dice, house[0], dice.randint(0, 4))
            moved = moved_house(move, house)
            moved_kept = Kept(house[0])
            for thing in moved[1]:
                moved_kept.come(thing)
            for ask in dice.sample(list(asks_of(dice, house, 1)), 20):
                wanted, other = answer(house, ask), self.moved_ask(move, ask)
                answers = [("plainly", answer(moved, other)), ("kept", moved_kept.ask(other)[0])]
                for way, told in answers + list(answers_by_all_ways(dice, moved, other)):
                    if ask[0] == "all":
                        self.assertEqual(sorted(told), sorted(wanted), (way, house, move, ask))
                    elif ask[0] != "first":
                        self.assertEqual(told, wanted, (way, house, move, ask))

    def test_all_and_first_of_shifts(self):
        dice = random.Random(312)
        for kept, house in kept_houses(dice, (1, 2, 5, 9)):
            move = tuple(("shift", tuple(dice.randint(-99, 99) for i in range(house[0]))) for each in range(2))
            moved = moved_house(move, house)
            for box in samples.asked_boxes(dice, house, 2):
                for ask in [("all", box)] + [("first", box, k) for k in (0, 1, 3, 99)]:
                    for way, told in answers_by_all_ways(dice, moved, self.moved_ask(move, ask)):
                        self.assertEqual(told, answer(house, ask))

    def test_moved_back_all_is_as_it_was(self):
        dice = random.Random(313)
        for kept, house in kept_houses(dice, (1, 5)):
            move = samples.some_move(dice, house[0], 5)
            there = moved_house(move, house)
            self.assertTrue(samples.is_like(moved_house(back(move), there), house))
            self.assertEqual(turns(moved_house(back(move), there)), turns(house))

    def test_covers_of_what_is_moved(self):
        dice = random.Random(314)
        for kept, house in kept_houses(dice, (1, 5, 9)):
            move = samples.some_move(dice, house[0], 3)
            moved = moved_house(move, house)
            for box in samples.asked_boxes(dice, house, 2):
                parts = cover(moved, turns(moved), moved_box(move, box))
                taken = [name for part in parts if part[1] == "in" for name in samples.at_path(turns(moved), part[0])[0]]
                self.assertEqual(sorted(taken), sorted(answer(house, ("all", box))))


class Written(unittest.TestCase):
    """(g)."""

    def test_what_is_written_is_read_as_it_was(self):
        dice = random.Random(315)
        for kept, house in kept_houses(dice):
            self.assertTrue(samples.is_like(read_house(show_house(house)), house))
            for ask in asks_of(dice, house, 1):
                self.assertTrue(samples.is_like(read_box(show_box(ask[1]), house[0]), ask[1]))
                self.assertTrue(samples.is_like(read_ask(show_ask(ask), house[0]), ask))

    def test_the_desk_answers_as_all_ways_do(self):
        dice = random.Random(316)
        for kept, house in kept_houses(dice, (0, 1, 2, 5)):
            desk = Desk(show_house(house))
            for ask in dice.sample(list(asks_of(dice, house, 1)), 12):
                said = desk.say(show_ask(ask))
                for way, told in [("kept", kept.ask(ask)[0])] + list(answers_by_all_ways(dice, house, ask)):
                    names = told if isinstance(told, tuple) else () if told is None else (told,)
                    self.assertEqual(said, " ".join(str(name) for name in names) or "-", (way, house, ask))
                self.assertEqual(desk.say("ways " + show_ask(ask)), "alike")


if __name__ == "__main__":
    unittest.main()
