"""[22]: rows of asks that hang on one another; with [3] (e), by each way they come to the same."""

import copy
import random
import unittest

import samples
from boxlayers.answers import answer
from boxlayers.asks import is_ask
from boxlayers.corners import Corners
from boxlayers.errors import BoxError, NoNumber, NoThing
from boxlayers.hanging import is_row, ran, ran_by
from boxlayers.keeping import Kept
from boxlayers.layerasks import by_layers
from boxlayers.layers import layers
from boxlayers.markasks import by_marks
from boxlayers.marks import marked
from boxlayers.turnasks import by_turns
from boxlayers.turns import turns

WAYS = ("corners", "layers", "turns", "marks", "kept")
NUMBER_WORDS = ("count", "sum", "least", "most", "number", "worth")


def is_number_plainly(thing, at):
    """Whether a thing is a whole number, or ("of", j, more) with j ahead."""
    if type(thing) is int:
        return True
    if type(thing) is not tuple or len(thing) != 3 or type(thing[0]) is not str or thing[0] != "of":
        return False
    return type(thing[1]) is int and 0 <= thing[1] < at and type(thing[2]) is int


def is_span_plainly(thing, at):
    if type(thing) is not tuple or len(thing) != 2:
        return False
    for end in thing:
        if end is not None:
            if type(end) is not tuple or len(end) != 2 or not is_number_plainly(end[0], at) or type(end[1]) is not bool:
                return False
    return True


def is_part_plainly(kind, part, d, at):
    if kind == "box":
        return type(part) is tuple and len(part) == d and all(is_span_plainly(span, at) for span in part)
    if kind == "place":
        return type(part) is tuple and len(part) == d and all(is_number_plainly(number, at) for number in part)
    if kind == "i":
        return type(part) is int and 0 <= part < d
    return is_number_plainly(part, at) and (type(part) is tuple or part >= 0)


def is_row_plainly(thing, d):
    """Whether a thing is a row, as the document tells it."""
    if type(thing) is not tuple:
        return False
    kinds = {word: ("box",) for word in ("count", "sum", "least", "most", "all")}
    kinds |= {"first": ("box", "k"), "best": ("box", "k"), "near": ("box", "place", "k")}
    kinds |= {"number": ("name", "i"), "worth": ("name",)}
    for at, ask in enumerate(thing):
        if type(ask) is not tuple or not ask or type(ask[0]) is not str or ask[0] not in kinds:
            return False
        wanted = kinds[ask[0]]
        if len(ask) != 1 + len(wanted) or not all(is_part_plainly(*pair, d, at) for pair in zip(wanted, ask[1:])):
            return False
    return True


class Refused(Exception):
    """A refusal as the document tells it: its kind, and which ask."""


def settled(thing, answers):
    """The thing with numbers for all answers that it uses."""
    if type(thing) is not tuple:
        return thing
    if thing[:1] == ("of",):
        if type(answers[thing[1]]) is not int:
            raise Refused(NoNumber, len(answers))
        return answers[thing[1]] + thing[2]
    return tuple(settled(part, answers) for part in thing)


def settled_asks(house, row):
    """(settled ask, answer) of each, by going through all things."""
    answers, told = [], []
    for ask in row:
        plain = settled(ask, answers)
        if plain[0] in ("first", "best", "near") and plain[-1] < 0:
            raise Refused(NoNumber, len(answers))
        if plain[0] in ("number", "worth"):
            found = [thing for thing in house[1] if thing[0] == plain[1]]
            if not found:
                raise Refused(NoThing, len(answers))
            answers.append(found[0][1][plain[2]] if plain[0] == "number" else found[0][2])
        else:
            answers.append(answer(house, plain))
        told.append((plain, answers[-1]))
    return told


def hung(dice, at, number, words, often):
    """The number, or now and then an answer of one ahead, mostly of one whose word tells numbers."""
    if at == 0 or dice.random() > often:
        return number
    numbers = [j for j in range(at) if words[j] in NUMBER_WORDS]
    j = dice.choice(numbers) if numbers and dice.random() < 0.9 else dice.randrange(at)
    return ("of", j, dice.choice((0, 0, 0, 1, -1, dice.randint(-5, 5))))


def hung_ask(dice, house, at, words, often):
    """An ask of any of the ten words that may hang on those ahead."""
    d, things = house
    names = samples.names_of(things) or (0,)

    def put(number):
        return hung(dice, at, number, words, often)

    word = dice.choice(samples.WORDS + ("number", "worth", "count", "least"))
    if word == "number":
        return (word, put(dice.choice(names)), dice.randrange(d))
    if word == "worth":
        return (word, put(dice.choice(names)))
    box = samples.asked_boxes(dice, house, 1)[-1]
    box = tuple(tuple(end and (put(end[0]), end[1]) for end in span) for span in box)
    parts = {"first": (put(dice.randint(0, 3)),), "best": (put(dice.randint(0, 3)),)}
    parts["near"] = (tuple(put(dice.randint(-4, 4)) for i in range(d)), put(dice.randint(0, 3)))
    return (word, box) + parts.get(word, ())


def some_row(dice, house, many, often=0.3):
    row = ()
    while len(row) < many:
        row += (hung_ask(dice, house, len(row), [ask[0] for ask in row], often),)
    return row


def made_for(way, house):
    """What the way asks."""
    if way == "kept":
        kept = Kept(house[0])
        for thing in house[1]:
            kept.come(thing)
        return kept
    return {"corners": Corners, "layers": layers, "turns": turns, "marks": marked}[way](house)


def looks_of(way, house, made, ask):
    """The looks of one settled ask by that way, by its own functions."""
    word, d, many = ask[0], house[0], len(house[1])
    if word in ("number", "worth"):
        return 0
    if way == "corners":
        return made.ask(ask[1])[2] if word in ("count", "sum") and d <= 3 and many <= 40 else 0
    if way == "marks":
        return by_marks(house, made, ask[1])[2] if word in ("count", "sum") and d == 2 else 0
    if way == "layers":
        return by_layers(house, made, ask)[1] if word not in ("near", "best") else 0
    return by_turns(house, made, ask)[1] if way == "turns" else made.ask(ask)[1]


class IsRowByHand(unittest.TestCase):
    whole = samples.whole(1)

    def test_rows(self):
        of = ("of", 0, 0)
        for row in [
            (), (("count", self.whole),), (("worth", 0),), (("number", 7, 0),), (("number", samples.BIG, 0),),
            (("count", self.whole), ("first", self.whole, of)),
            (("count", self.whole), ("best", self.whole, ("of", 0, -5))),
            (("count", self.whole), ("near", self.whole, (("of", 0, 3),), 1)),
            (("count", self.whole), ("near", self.whole, (of,), of)),
            (("least", self.whole), ("worth", of), ("number", ("of", 0, -2), 0)),
            (("least", self.whole), ("sum", (((of, True), None),)), ("sum", ((None, (("of", 1, 9), False)),))),
            (("least", self.whole), ("sum", (((of, True), (of, False)),))),
            # What an answer comes to is seen when it is there.
            (("all", self.whole), ("first", self.whole, of)), (("near", self.whole, (0,), 2), ("worth", of)),
            (("count", self.whole), ("first", self.whole, ("of", 0, -samples.BIG))),
        ]:
            self.assertIs(is_row(row, 1), True, row)

    def test_none(self):
        ahead = ("count", self.whole)
        of = ("of", 0, 0)
        for ask in [
            # Of itself, of one behind, of a place below 0.
            ("first", self.whole, ("of", 1, 0)), ("first", self.whole, ("of", 2, 0)), ("first", self.whole, ("of", -1, 0)),
            # More that is no whole number, and other forms.
            ("first", self.whole, ("of", 0, None)), ("first", self.whole, ("of", 0, True)), ("first", self.whole, ("of", 0, "0")),
            ("first", self.whole, ("of", 0, 0.0)), ("first", self.whole, ("of", False, 0)), ("first", self.whole, ("of", 0, of)),
            ("first", self.whole, ("of", of, 0)), ("first", self.whole, ("of", 0)), ("first", self.whole, ("of", 0, 0, 0)),
            ("first", self.whole, ["of", 0, 0]), ("first", self.whole, ("Of", 0, 0)), ("first", self.whole, (b"of", 0, 0)),
            ("first", self.whole, (None, 0, 0)), ("first", self.whole, (samples.Unwilling(), 0, 0)),
            # Where no number stands.
            ("count", of), ("count", (of,)), ("count", ((of, None),)), ("count", (((0, of), None),)), (of, self.whole),
            ("near", self.whole, of, 1), ("number", 0, of), of, ("count", ((None, None), (None, None))),
            # A number beyond, a name that is none, k below 0.
            ("number", 0, 1), ("number", 0, -1), ("number", 0, True), ("number", 0, None), ("number", -1, 0), ("worth", -1),
            ("worth", True), ("worth", None), ("worth", "0"), ("number", 0), ("number",), ("worth",), ("worth", 0, 0),
            ("number", 0, 0, 0), ("first", self.whole, -1), ("best", self.whole, True), ("near", self.whole, (0,), -1),
            # Lists, truths, words otherwise.
            ["count", self.whole], ("count", [(None, None)]), ("count", (([0, True], None),)), ("count", (((0, 1), None),)),
            ("Count", self.whole), ("nearest", self.whole, (0,), 1), ("near", self.whole, [0], 1), (), (None,), None, True,
        ]:
            self.assertIs(is_row((ahead, ask), 1), False, ask)
        for thing in ([], [ahead], {}, None, True, 0, "", "count", ahead, ((),)):
            self.assertIs(is_row(thing, 1), False, thing)

    def test_numbers_of_d(self):
        for d in range(1, 5):
            for i in range(-1, 6):
                self.assertIs(is_row((("number", 3, i),), d), 0 <= i < d)
            for other in range(1, 5):
                self.assertIs(is_row((("all", samples.whole(d)),), other), d == other)
                self.assertIs(is_row((("near", samples.whole(d), (0,) * other, 1),), d), d == other)


class IsRow(unittest.TestCase):
    def test_rows_of_none_to_twelve_asks(self):
        dice = random.Random(320)
        for house in samples.some_houses(dice, (0, 1, 5)):
            for many in range(13):
                row = some_row(dice, house, many)
                self.assertIs(is_row(row, house[0]), True, row)
                self.assertIs(is_row_plainly(row, house[0]), True)
                self.assertIs(is_row(list(row), house[0]), False)

    def test_rows_without_hanging_are_rows_of_asks(self):
        dice = random.Random(321)
        for house in samples.some_houses(dice, (3,)):
            row = tuple(ask for ask in some_row(dice, house, 12, 0) if ask[0] in samples.WORDS)
            for ask in row:
                self.assertIs(is_ask(ask, house[0]), True)
            self.assertIs(is_row(row, house[0]), True)

    def test_one_part_otherwise(self):
        dice = random.Random(322)
        seen = {True: 0, False: 0}
        for house in samples.some_houses(dice, (4,)):
            for many in (1, 2, 4):
                row = some_row(dice, house, many, 0.5)
                for other in samples.spoiled(row) + samples.put_otherwise(row, samples.changes):
                    told = is_row(other, house[0])
                    self.assertIs(told, is_row_plainly(other, house[0]), other)
                    seen[told] += 1
        self.assertGreater(seen[True], 100)
        self.assertGreater(seen[False], 1000)

    def test_other_places_in_a_row(self):
        dice = random.Random(323)
        for house in samples.some_houses(dice, (4,)):
            row = some_row(dice, house, 6, 0.7)
            for each in range(20):
                mixed = tuple(dice.sample(row, dice.randint(1, 6)))
                self.assertIs(is_row(mixed, house[0]), is_row_plainly(mixed, house[0]), mixed)

    def test_things_of_any_kind(self):
        for d in range(1, 5):
            for thing in samples.odd_things():
                self.assertIs(is_row(thing, d), type(thing) is tuple and len(thing) == 0)
                for ask in (thing, (thing,), ("worth", thing), ("number", thing, 0), ("number", 0, thing), ("count", thing),
                            ("first", samples.whole(d), thing), ("near", samples.whole(d), thing, 1), ("sum", (thing,) * d),
                            ("sum", ((thing, thing),) * d), ("sum", (((thing, True), None),) * d)):
                    row = (("count", samples.whole(d)), ask)
                    self.assertIs(is_row(row, d), is_row_plainly(row, d))

    def test_a_thing_that_holds_itself_over_and_over(self):
        for make in (lambda part: (part, part), lambda part: (part,) * 50, lambda part: ("of", part, part)):
            thing = ()
            for depth in range(30):
                thing = make(thing)
            for row in (thing, (thing,), (("count", thing),), (("worth", thing),), (("near", thing, thing, thing),)):
                self.assertIs(is_row(row, 2), False)


class RanByHand(unittest.TestCase):
    house = (2, ((0, (4, 1), 10), (3, (5, 1), -2), (8, (0, 2), 7)))
    whole = samples.whole(2)

    def ran(self, *row):
        return ran(self.house, row)

    def test_answers(self):
        self.assertEqual(self.ran(), ())
        self.assertEqual(self.ran(("count", self.whole), ("first", self.whole, ("of", 0, -1))), (3, (8, 0)))
        self.assertEqual(self.ran(("least", self.whole), ("worth", ("of", 0, 0))), (3, -2))
        self.assertEqual(self.ran(("most", self.whole), ("number", ("of", 0, 0), 0), ("number", ("of", 0, 3), 1)), (0, 4, 1))
        box = (((("of", 0, 0), True), (("of", 0, 1), False)), (None, None))
        self.assertEqual(self.ran(("number", 3, 0), ("sum", box), ("count", box)), (5, -2, 1))
        near = ("near", self.whole, (("of", 0, 0), ("of", 1, 0)), ("of", 1, 0))
        self.assertEqual(self.ran(("number", 8, 0), ("number", 8, 1), near), (0, 2, (8, 0)))

    def test_refusals(self):
        empty = (((1, True), (0, True)), (None, None))
        count, nothing = ("count", self.whole), ("least", empty)
        for row, kind, at in [
            # Answers that are no numbers: of all, first, best, near, of a least or a most of nothing.
            ((("all", self.whole), ("worth", ("of", 0, 0))), NoNumber, 1),
            ((("first", self.whole, 1), count, ("best", self.whole, ("of", 0, 0))), NoNumber, 2),
            ((("best", self.whole, 1), ("near", self.whole, (("of", 0, 0), 0), 1)), NoNumber, 1),
            ((("near", self.whole, (0, 0), 1), ("sum", ((None, (("of", 0, 0), True)), (None, None)))), NoNumber, 1),
            ((nothing, ("number", ("of", 0, 0), 0)), NoNumber, 1), ((("most", empty), ("worth", ("of", 0, 3))), NoNumber, 1),
            ((("all", empty), ("first", self.whole, ("of", 0, 0))), NoNumber, 1),
            # A k below 0.
            ((count, ("first", self.whole, ("of", 0, -4))), NoNumber, 1), ((count, ("best", empty, ("of", 0, -9))), NoNumber, 1),
            ((count, count, ("near", empty, (0, 0), ("of", 1, -4))), NoNumber, 2),
            # Names that aren't there.
            ((("worth", 1),), NoThing, None), ((("number", 2, 0),), NoThing, None), ((count, ("worth", ("of", 0, -4))), NoThing, None),
            ((count, ("number", ("of", 0, 1), 0)), NoThing, None), ((("worth", 10 ** 18),), NoThing, None),
            # Of two asks the first one's.
            ((("all", self.whole), ("worth", 1), ("worth", ("of", 0, 0))), NoThing, None),
            ((("all", self.whole), ("worth", ("of", 0, 0)), ("worth", 1)), NoNumber, 1),
            ((count, ("first", self.whole, ("of", 0, -4)), ("worth", 1)), NoNumber, 1),
            ((count, ("worth", 1), ("first", self.whole, ("of", 0, -4))), NoThing, None),
            ((nothing, ("worth", ("of", 0, 0)), ("first", self.whole, ("of", 0, 0))), NoNumber, 1),
        ]:
            for asked in [ran] + [lambda house, row, way=way: ran_by(way, house, row) for way in WAYS]:
                with self.assertRaises(kind) as caught:
                    asked(self.house, row)
                if kind is NoNumber:
                    self.assertTrue(samples.is_like(caught.exception.row, at), row)
        for kind in (NoNumber, NoThing):
            self.assertEqual(kind.__bases__, (BoxError,))

    def test_k_of_exactly_0(self):
        self.assertEqual(self.ran(("count", self.whole), ("best", self.whole, ("of", 0, -3))), (3, ()))

    def test_looks(self):
        box = (((0, True), (5, False)), (None, (2, True)))
        row = (("count", box), ("sum", box), ("all", box), ("best", box, 1), ("worth", 0))
        answers = (2, 17, (8, 0), (0,), 10)
        self.assertEqual(ran(self.house, row), answers)
        for way, looks in (("corners", 18), ("marks", 10), ("layers", 12), ("turns", 12)):
            self.assertEqual(ran_by(way, self.house, row), (answers, looks), way)
        self.assertEqual(ran_by("kept", self.house, row), (answers, 3 * 4 + 3))
        for way in WAYS:
            self.assertEqual(ran_by(way, self.house, ()), ((), 0))
            self.assertEqual(ran_by(way, self.house, (("worth", 3), ("number", 3, 1))), ((-2, 1), 0))
            self.assertEqual(ran_by(way, (2, ()), (("least", box), ("count", box)))[0], (None, 0))


class Ran(unittest.TestCase):
    def check(self, house, row):
        """Whether the row was answered; its answers, or its refusal, by all ways."""
        try:
            told = settled_asks(house, row)
        except Refused as refusal:
            kind, at = refusal.args
            for asked in [ran] + [lambda house, row, way=way: ran_by(way, house, row) for way in WAYS]:
                with self.assertRaises(kind) as caught:
                    asked(house, row)
                self.assertIs(type(caught.exception), kind)
                if kind is NoNumber:
                    self.assertTrue(samples.is_like(caught.exception.row, at))
            return False
        answers = tuple(each for ask, each in told)
        self.assertTrue(samples.is_like(ran(house, row), answers), (house, row))
        for way in WAYS:
            suits = {"corners": house[0] < 4 and len(house[1]) <= 40, "marks": house[0] == 2}.get(way, True)
            made = made_for(way, house) if suits else None
            looks = sum(looks_of(way, house, made, ask) for ask, each in told)
            self.assertTrue(samples.is_like(ran_by(way, house, row), (answers, looks)), (way, house, row))
        return True

    def test_rows_of_none_to_twelve_asks(self):
        dice = random.Random(324)
        seen = {True: 0, False: 0}
        for house in samples.some_houses(dice, (0, 1, 3, 6, 12)):
            for many in (0, 1, 2, 5, 8, 12):
                for often in (0.1, 0.3):
                    seen[self.check(house, some_row(dice, house, many, often))] += 1
        self.assertGreater(min(seen.values()), 150)

    def test_chains_of_sixty_asks(self):
        dice = random.Random(325)
        for d in range(1, 5):
            house = samples.made_house(dice, d, 12, range(0, 12), range(0, 12))
            house = (d, tuple((name, thing[1], thing[2]) for name, thing in enumerate(house[1])))
            row = (("least", samples.whole(d)),)
            while len(row) < 60:
                of = ("of", len(row) - 1, 0)
                span = ((of, True), (("of", len(row) - 1, 7), True))
                row += (dice.choice((
                    ("worth", of), ("number", of, dice.randrange(d)), ("count", (span,) + samples.whole(d)[1:]),
                    ("count", samples.whole(d)[1:] + ((None, (of, True)),)))),)
                # A name that isn't there would end the chain.
                if settled_asks(house, row)[-1][1] not in range(12):
                    row = row[:-1]
            self.assertIs(is_row(row, d), True)
            self.assertTrue(self.check(house, row))

    def test_numbers_grow_along_a_chain(self):
        house = (1, ((0, (5,), samples.BIG),))
        row = (("worth", 0),)
        while len(row) < 60:
            row += (("sum", ((None, (("of", len(row) - 1, samples.BIG), True)),)),)
        self.assertTrue(self.check(house, row))

    def test_of_corners_and_marks_just_theirs(self):
        dice = random.Random(326)
        for d, many in ((1, 40), (1, 41), (2, 40), (2, 41), (3, 40), (3, 41), (4, 20), (2, 60)):
            house = samples.made_house(dice, d, many)
            box = samples.asked_boxes(dice, house, 1)[-1]
            row = (("count", box), ("sum", box))
            self.assertTrue(self.check(house, row))
            self.assertEqual(ran_by("corners", house, row)[1] > 0, d <= 3 and many <= 40)
            self.assertEqual(ran_by("marks", house, row)[1] > 0, d == 2)

    def test_asks_that_the_way_has_not(self):
        dice = random.Random(327)
        for d in range(1, 5):
            house = samples.made_house(dice, d, 9)
            whole = samples.whole(d)
            near, best = ("near", whole, (0,) * d, 3), ("best", whole, 3)
            for way, row in [
                ("layers", (near, best)),
                ("corners", (near, best, ("least", whole), ("most", whole), ("all", whole), ("first", whole, 2))),
                ("marks", (near, best, ("least", whole), ("most", whole), ("all", whole), ("first", whole, 2))),
            ]:
                self.assertEqual(ran_by(way, house, row), (tuple(answer(house, ask) for ask in row), 0))
            for way in ("turns", "kept"):
                for ask in (near, best, ("least", whole), ("first", whole, 2)):
                    self.assertGreater(ran_by(way, house, (ask,))[1], 0)

    def test_what_is_handed_in_stays_and_asked_again_the_same_is_told(self):
        dice = random.Random(328)
        for house in samples.some_houses(dice, (5,)):
            row = some_row(dice, house, 5, 0)
            before = copy.deepcopy((house, row))
            first = ran(house=house, row=row)
            self.assertEqual(ran(house, row), first)
            for way in WAYS:
                told = ran_by(way=way, house=house, row=row)
                self.assertEqual(ran_by(way, house, row), told)
                self.assertTrue(samples.is_told(told))
            self.assertIs(is_row(thing=row, d=house[0]), True)
            self.assertTrue(samples.is_like((house, row), before))


if __name__ == "__main__":
    unittest.main()
