"""[23]: moves of places, houses and boxes."""

import copy
import random
import unittest

import samples
from boxlayers.asks import steps
from boxlayers.boxes import fits, is_box, is_place
from boxlayers.houses import fitting, is_house
from boxlayers.moving import back, is_move, moved_box, moved_house, moved_place


def some_moves(dice, far=9, each=4):
    """(d, move): moves of none to five steps."""
    for d in range(1, 5):
        for many in range(6):
            for again in range(each):
                yield d, samples.some_move(dice, d, many, far)


def place_plainly(move, place):
    """The moved place, number by number."""
    numbers = list(place)
    for step in move:
        before = list(numbers)
        for i in range(len(numbers)):
            if step[0] == "shift":
                numbers[i] = before[i] + step[1][i]
            elif step[0] == "mirror":
                numbers[i] = before[i] * (-1 if i == step[1] else 1)
            elif i in step[1:]:
                numbers[i] = before[step[2] if i == step[1] else step[1]]
    return tuple(numbers)


def is_move_plainly(thing, d):
    """Whether a thing is a move, as the document tells it."""
    if type(thing) is not tuple:
        return False
    for step in thing:
        if type(step) is not tuple or len(step) < 2 or type(step[0]) is not str:
            return False
        numbers = all(type(number) is int and 0 <= number < d for number in step[1:])
        shift = step[0] == "shift" and len(step) == 2 and type(step[1]) is tuple and len(step[1]) == d
        if shift and all(type(number) is int for number in step[1]):
            continue
        if not ((step[0], len(step)) in (("mirror", 2), ("swap", 3)) and numbers):
            return False
    return True


class IsMove(unittest.TestCase):
    def test_moves(self):
        dice = random.Random(340)
        for d, move in some_moves(dice):
            self.assertIs(is_move(move, d), True, move)
            self.assertIs(is_move(list(move), d), False)
            for step in move:
                self.assertIs(is_move(step, d), False, step)
        for d in range(1, 5):
            self.assertIs(is_move((), d), True)

    def test_by_hand(self):
        for step, told in [
            (("shift", (0, 0)), True), (("shift", (-5, samples.BIG)), True), (("mirror", 0), True), (("mirror", 1), True),
            (("swap", 0, 1), True), (("swap", 1, 0), True), (("swap", 1, 1), True),
            (("shift", (0,)), False), (("shift", (0, 0, 0)), False), (("shift", 0, 0), False), (("shift", [0, 0]), False),
            (("shift", (0, None)), False), (("shift", (0, True)), False), (("shift", (0, 0), 0), False), (("shift",), False),
            (("shift", ()), False), (("shift", 0), False), (("shift", ((0, 0),)), False), (("shift", ("of", 0)), False),
            (("mirror", 2), False), (("mirror", -1), False), (("mirror", True), False), (("mirror", False), False),
            (("mirror", None), False), (("mirror",), False), (("mirror", 0, 1), False), (("mirror", (0,)), False),
            (("swap", 0), False), (("swap", 0, 2), False), (("swap", 2, 0), False), (("swap", -1, 0), False),
            (("swap", 0, 1, 1), False), (("swap", False, True), False), (("swap", 0, True), False), (("swap", (0, 1)), False),
            (("turn", 0), False), (("Shift", (0, 0)), False), (("mirrors", 0), False), (("", 0), False), ((b"mirror", 0), False),
            ((None, 0), False), ((samples.Unwilling(), 0), False), (["mirror", 0], False), ((), False), (None, False),
            ("mirror", False), (0, False), (True, False), ((("mirror", 0),), False),
        ]:
            self.assertIs(is_move((step,), 2), told, step)
            self.assertIs(is_move((("mirror", 1), step), 2), told, step)
            self.assertIs(is_move((step, ("mirror", 1)), 2), told, step)

    def test_numbers_of_d(self):
        for d in range(1, 5):
            for i in range(-1, 6):
                self.assertIs(is_move((("mirror", i),), d), 0 <= i < d)
                self.assertIs(is_move((("swap", 0, i),), d), 0 <= i < d)
                self.assertIs(is_move((("shift", (7,) * max(i, 0)),), d), i == d)

    def test_one_part_otherwise(self):
        dice = random.Random(341)
        seen = {True: 0, False: 0}
        for d, move in some_moves(dice, each=2):
            for other in samples.spoiled(move) + samples.put_otherwise(move, samples.changes):
                told = is_move(other, d)
                self.assertIs(told, is_move_plainly(other, d))
                seen[told] += 1
        self.assertGreater(min(seen.values()), 100)

    def test_things_of_any_kind(self):
        for d in range(1, 5):
            for thing in samples.odd_things():
                self.assertIs(is_move(thing, d), type(thing) is tuple and len(thing) == 0)
                for step in (thing, (thing,), (thing, 0), ("mirror", thing), ("swap", 0, thing), ("swap", thing, 0),
                             ("shift", thing), ("shift", (thing,) * d), ("mirror", 0, thing)):
                    self.assertIs(is_move((step,), d), is_move_plainly((step,), d))


class Places(unittest.TestCase):
    def test_by_hand(self):
        for move, place, told in [
            ((), (1, 2, 3), (1, 2, 3)),
            ((("shift", (10, 0, -5)),), (1, 2, 3), (11, 2, -2)),
            ((("mirror", 1),), (1, 2, 3), (1, -2, 3)),
            ((("swap", 0, 2),), (1, 2, 3), (3, 2, 1)),
            ((("swap", 1, 1),), (1, 2, 3), (1, 2, 3)),
            ((("shift", (10, 0, 0)), ("mirror", 0)), (1, 2, 3), (-11, 2, 3)),
            ((("mirror", 0), ("shift", (10, 0, 0))), (1, 2, 3), (9, 2, 3)),
            ((("swap", 0, 1), ("swap", 1, 2)), (1, 2, 3), (2, 3, 1)),
            ((("swap", 0, 1), ("mirror", 0)), (1, 2, 3), (-2, 1, 3)),
        ]:
            self.assertEqual(moved_place(move, place), told, move)

    def test_as_the_document_tells(self):
        dice = random.Random(342)
        for d, move in some_moves(dice):
            for each in range(5):
                place = tuple(dice.choice((0, dice.randint(-9, 9), samples.BIG, -samples.BIG)) for i in range(d))
                told = moved_place(move, place)
                self.assertTrue(samples.is_like(told, place_plainly(move, place)), (move, place))
                self.assertIs(is_place(told, d), True)

    def test_back(self):
        dice = random.Random(343)
        for d, move in some_moves(dice):
            undo = back(move)
            self.assertIs(is_move(undo, d), True)
            for each in range(3):
                place = tuple(dice.randint(-99, 99) for i in range(d))
                self.assertEqual(moved_place(undo, moved_place(move, place)), place)
                self.assertEqual(moved_place(move, moved_place(undo, place)), place)
                self.assertEqual(moved_place(move + undo, place), place)
                self.assertEqual(moved_place(back(undo), place), moved_place(move, place))

    def test_back_of_none(self):
        self.assertEqual(back(()), ())

    def test_steps_stay(self):
        dice = random.Random(344)
        for d, move in some_moves(dice):
            one, other = [tuple(dice.randint(-9, 9) for i in range(d)) for each in range(2)]
            self.assertEqual(steps(moved_place(move, one), moved_place(move, other)), steps(one, other))


class Houses(unittest.TestCase):
    def test_each_thing_at_its_moved_place(self):
        dice = random.Random(345)
        for house in samples.some_houses(dice, (0, 1, 2, 9)):
            for many in range(4):
                move = samples.some_move(dice, house[0], many)
                told = moved_house(move, house)
                wanted = tuple((name, place_plainly(move, place), worth) for name, place, worth in house[1])
                self.assertTrue(samples.is_like(told, (house[0], wanted)))
                self.assertIs(is_house(told), True)
                self.assertTrue(samples.is_like(moved_house(back(move), told), house))
                self.assertTrue(samples.is_like(moved_house(move, moved_house(back(move), house)), house))


class Boxes(unittest.TestCase):
    def test_by_hand(self):
        low, high = (2, True), (5, False)
        for move, box, told in [
            ((), ((low, high),), ((low, high),)),
            ((("shift", (10,)),), ((low, high),), (((12, True), (15, False)),)),
            ((("shift", (-10,)),), ((None, high),), ((None, (-5, False)),)),
            ((("mirror", 0),), ((low, high),), (((-5, False), (-2, True)),)),
            ((("mirror", 0),), ((None, high),), (((-5, False), None),)),
            ((("mirror", 0),), ((low, None),), ((None, (-2, True)),)),
            ((("mirror", 0),), ((None, None),), ((None, None),)),
            ((("swap", 0, 1),), ((low, high), (None, low)), ((None, low), (low, high))),
            ((("swap", 1, 1),), ((low, high), (None, low)), ((low, high), (None, low))),
            # A crossed one stays so, with its very ends.
            ((("mirror", 0), ("shift", (1,))), (((5, True), (2, False)),), (((-1, False), (-4, True)),)),
        ]:
            self.assertTrue(samples.is_like(moved_box(move, box), told), (move, box))

    def test_a_place_fits_just_where_the_moved_one_fits_the_moved_box(self):
        dice = random.Random(346)
        for d, move in some_moves(dice, far=3):
            for box in samples.boxes(dice, d, 3, range(-1, 3)):
                moved = moved_box(move, box)
                self.assertIs(is_box(moved, d), True)
                places = samples.window(d, -2, 3)
                for place in dice.sample(places, min(40, len(places))):
                    self.assertIs(fits(moved, place_plainly(move, place)), samples.place_fits(box, place), (move, box))

    def test_no_other_places_fit(self):
        dice = random.Random(347)
        for d, many in ((1, 40), (2, 40)):
            for each in range(many):
                shift = ("shift", tuple(dice.randint(-2, 2) for i in range(d)))
                move = (("mirror", dice.randrange(d)), shift, ("swap", 0, d - 1))[dice.randrange(3):]
                box = samples.boxes(dice, d, 1, range(-1, 3))[0]
                moved = moved_box(move, box)
                undo = back(move)
                for place in samples.window(d, -8, 8):
                    self.assertIs(fits(moved, place), samples.place_fits(box, place_plainly(undo, place)))

    def test_ends_are_kept(self):
        # As many ends, open and shut as they were.
        dice = random.Random(348)
        for d, move in some_moves(dice):
            for box in samples.boxes(dice, d, 3, range(-1, 3)) + samples.edge_boxes(d)[:4]:
                ends = [end and end[1] for span in box for end in span]
                told = [end and end[1] for span in moved_box(move, box) for end in span]
                self.assertEqual(sorted(map(str, ends)), sorted(map(str, told)))

    def test_back(self):
        dice = random.Random(349)
        for d, move in some_moves(dice):
            for box in samples.boxes(dice, d, 3, range(-9, 10)) + samples.edge_boxes(d)[:3]:
                self.assertTrue(samples.is_like(moved_box(back(move), moved_box(move, box)), box))
                self.assertTrue(samples.is_like(moved_box(move, moved_box(back(move), box)), box))

    def test_those_that_fit_stay(self):
        dice = random.Random(350)
        for house in samples.some_houses(dice, (1, 5, 12)):
            move = samples.some_move(dice, house[0], 3)
            for box in samples.asked_boxes(dice, house, 4):
                self.assertEqual(fitting(moved_house(move, house), moved_box(move, box)), fitting(house, box))

    def test_what_is_handed_in_stays_and_asked_again_the_same_is_told(self):
        dice = random.Random(351)
        for house in samples.some_houses(dice, (0, 5)):
            move = samples.some_move(dice, house[0], 4)
            box = samples.asked_boxes(dice, house, 1)[-1]
            place = (3,) * house[0]
            before = copy.deepcopy((house, move, box, place))
            for each in range(2):
                told = (moved_place(move=move, place=place), moved_house(move=move, house=house),
                        moved_box(move=move, box=box), back(move=move), is_move(thing=move, d=house[0]))
                self.assertTrue(samples.is_told(told))
                again = (moved_place(move, place), moved_house(move, house), moved_box(move, box), back(move), True)
                self.assertTrue(samples.is_like(told, again))
            self.assertTrue(samples.is_like((house, move, box, place), before))


if __name__ == "__main__":
    unittest.main()
