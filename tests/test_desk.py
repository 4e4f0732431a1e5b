"""[25]: a desk and the lines that are said to it; with [3] (g), it answers as all the others do."""

import random
import unittest

import samples
from boxlayers.answers import answer
from boxlayers.covers import cover
from boxlayers.desk import Desk
from boxlayers.errors import BoxError, NoLine, NoText, NoThing, Taken
from boxlayers.keeping import Kept, most_made
from boxlayers.showing import show_ask, show_box, show_house
from boxlayers.turns import turns

STATE = ("made", "parts", "house")


def answer_plainly(told):
    """An answer as a text."""
    if told is None or told == ():
        return "-"
    return " ".join(map(str, told)) if isinstance(told, tuple) else str(told)


def parts_plainly(parts):
    rows = []
    for rank, names, gone in parts:
        rows.append(f"{rank}:" + ",".join(f"({name})" if is_gone else str(name) for name, is_gone in zip(names, gone)))
    return " ".join(rows) or "-"


class Beside:
    """A kept house beside a desk, to which the same is done."""

    def __init__(self, house):
        self.kept = Kept(house[0])
        self.many = {"come": 0, "go": 0}
        for thing in house[1]:
            self.come(thing)

    def come(self, thing):
        self.kept.come(thing)
        self.many["come"] += 1

    def go(self, name):
        self.kept.go(name)
        self.many["go"] += 1

    def state(self):
        """What the desk has to tell to made, parts and house."""
        made = f"{self.kept.made()} {most_made(self.many['come'], self.many['go'])}"
        return [made, parts_plainly(self.kept.parts()), show_house(self.kept.house()).replace("\n", ";")]

    def deeds(self, dice, many, names):
        """Deeds that are done here, told as lines; what is refused is told with its refusal."""
        d = self.kept.house()[0]
        for each in range(many):
            name = dice.choice(names)
            thing = (name, tuple(dice.randint(-9, 9) for i in range(d)), dice.randint(-99, 99))
            line = f"come {name} {','.join(map(str, thing[1]))} {thing[2]}"
            come = dice.random() < 0.6
            try:
                self.come(thing) if come else self.go(name)
                refusal = None
            except BoxError as error:
                refusal = type(error)
            yield (line if come else f"go {name}"), refusal


def said(desk, lines):
    return [desk.say(line) for line in lines]


class ByHand(unittest.TestCase):
    text = "house 2\n0 4,1 10\n3 5,1 -2\n8 0,2 7"

    def test_each_line(self):
        desk = Desk(self.text)
        for line, told in [
            ("count -..- -..-", "3"), ("sum -..- -..-", "15"), ("sum (4..- -..-", "-2"), ("least -..- -..-", "3"),
            ("most -..- -..-", "0"), ("all -..- -..-", "8 0 3"), ("first 2 -..- -..-", "8 0"), ("best 2 -..- -..-", "0 8"),
            ("near 5,1 9 -..- -..-", "3 0 8"), ("count [9..- -..-", "0"), ("sum [9..- -..-", "0"), ("least [9..- -..-", "-"),
            ("most [9..- -..-", "-"), ("all [9..- -..-", "-"), ("first 0 -..- -..-", "-"), ("best 0 -..- -..-", "-"),
            ("near 0,0 0 -..- -..-", "-"), ("best 5 [9..- -..-", "-"), ("most [4..4] -..-", "0"), ("best 1 [4..4] -..-", "0"),
            ("looks count -..- -..-", "2"), ("looks best 0 -..- -..-", "0"), ("looks sum [5..- -..-", "4"),
            ("cover -..- -..-", "1 0"), ("cover [0..5) -..2]", "1 1"), ("cover [9..- -..-", "0 1"), ("cover [4..- -..-", "2 1"),
            ("ways count -..- -..-", "alike"), ("ways near 1,1 2 [0..- -..-", "alike"), ("ways least [9..- -..-", "alike"),
            ("made", "4 6"), ("parts", "1:0,3 0:8"), ("house", "house 2;0 4,1 10;3 5,1 -2;8 0,2 7"),
            ("go 3", "done"), ("parts", "1:0,(3) 0:8"), ("made", "4 8"), ("house", "house 2;0 4,1 10;8 0,2 7"),
            ("count -..- -..-", "2"), ("come 3 -1,0 5", "done"), ("parts", "2:0,8,3"), ("made", "7 15"),
            ("near -1,-1 1 -..- -..-", "3"), ("go 0", "done"), ("go 8", "done"), ("parts", "0:3"), ("go 3", "done"),
            ("parts", "-"), ("house", "house 2"), ("made", "8 24"), ("count -..- -..-", "0"), ("cover -..- -..-", "0 0"),
            ("all -..- -..-", "-"), ("ways sum -..- -..-", "alike"), ("looks all -..- -..-", "0"), ("come 7 1,1 1", "done"),
            ("parts", "0:7"), ("made", "9 27"),
        ]:
            self.assertEqual(desk.say(line), told, line)
            self.assertIs(type(desk.say("house")), str)

    def test_desks_of_no_things(self):
        for d in range(1, 5):
            desk = Desk(f"house {d}")
            whole = " ".join(["-..-"] * d)
            self.assertEqual(said(desk, STATE), ["0 0", "-", f"house {d}"])
            self.assertEqual(said(desk, [f"count {whole}", f"most {whole}", f"all {whole}"]), ["0", "-", "-"])
            self.assertEqual(said(desk, [f"cover {whole}", f"ways all {whole}", f"looks best 3 {whole}"]), ["0 0", "alike", "0"])

    def test_refusals(self):
        desk = Desk(self.text)
        desk.say("go 3")
        for line, kind in [
            ("come 0 1,1 1", Taken), ("come 8 0,2 7", Taken), ("go 3", NoThing), ("go 1", NoThing), ("go 999999999999999999", NoThing),
            # Lines of no form come first.
            ("come 0 1 1", NoLine), ("come 8 0,2,3 7", NoLine), ("go 03", NoLine), ("go -1", NoLine), ("come -1 0,0 0", NoLine),
        ]:
            before = said(desk, STATE)
            with self.assertRaises(kind) as caught:
                desk.say(line)
            self.assertIs(type(caught.exception), kind)
            self.assertEqual(said(desk, STATE), before)
        for kind in (Taken, NoThing, NoLine, NoText):
            self.assertEqual(kind.__bases__, (BoxError,))

    def test_lines_of_no_form(self):
        desk = Desk(self.text)
        before = said(desk, STATE)
        for line in [
            "", " ", "\n", "-", "0", "nothing", "Count -..- -..-", "count", "count ", "count -..-", "count -..- -..- -..-",
            "count  -..- -..-", "count -..-  -..-", " count -..- -..-", "count -..- -..- ", "count -..- -..-\n", "\ncount -..- -..-",
            "count\t-..- -..-", "count 3 -..- -..-", "first -..- -..-", "first -1 -..- -..-", "near 1 2 -..- -..-", "near 1,2 -..- -..-",
            "number 3 0", "worth 3", "come", "come ", "come 5", "come 5 1,1", "come 5 1,1 1 1", "come 5 1 1", "come 5 1,1,1 1",
            "come  5 1,1 1", "come 5 1, 1 1", "come 5 1,1 1 ", " come 5 1,1 1", "come 5 1,1 +1", "come 05 1,1 1", "come 5 1,1 -0",
            "come five 1,1 1", "come 5 1,1 1\n", "come -5 1,1 1", "come (5, (1, 1), 1)", "go", "go ", "go 0 3", "go  0", "go 0 ", " go 0",
            "go 0\n", "go 00", "go -0", "go -1", "go +0", "go x", "go 0,3", "go \u0660", "looks", "looks ", "looks count", "looks made",
            "looks looks count -..- -..-", "looks  count -..- -..-", "looks count -..- -..- ", "looks -..- -..-", "looks house", "looks go 0",
            "cover", "cover ", "cover -..-", "cover -..- -..- -..-", "cover count -..- -..-", "cover  -..- -..-", "cover -..- -..- ",
            "cover [5] -..-", "ways", "ways ", "ways count", "ways -..- -..-", "ways parts", "ways count -..- -..- ", "ways ways sum -..- -..-",
            "made ", " made", "made made", "made 1", "MADE", "parts ", " parts", "parts 1", "part", "house ", " house", "house 2", "house;",
            "house 2;0 4,1 10", "house\n", "made\n", "parts\n", "made\nparts", "done", "alike", "say made", "made;parts", "houses",
        ]:
            with self.assertRaises(NoLine) as caught:
                desk.say(line)
            self.assertIs(type(caught.exception), NoLine, line)
        self.assertEqual(said(desk, STATE), before)

    def test_things_that_are_no_texts(self):
        desk = Desk(self.text)
        before = said(desk, STATE)
        texts = [thing for thing in samples.odd_things() if isinstance(thing, str)]
        for thing in samples.odd_things() + [b"made", ["made"], ("made",), ("count", samples.whole(2)), bytearray(b"house")] + texts:
            with self.assertRaises(NoLine) as caught:
                desk.say(thing)
            self.assertIs(type(caught.exception), NoLine)
        self.assertEqual(said(desk, STATE), before)

    def test_desks_of_no_house(self):
        for thing in samples.odd_things() + [
            "house", "house 0", "house 5", "house 2\n", "house 2;0 4,1 10", "house 1\n1 0 0\n0 0 0", "house 1\n0 0 0\n0 0 0", "house 1\n-1 0 0",
            " house 2", "house 2\n0 4 10", "count -..-", "house 1\n0 0", b"house 1", ["house 1"], (1, ()),
        ]:
            with self.assertRaises(NoText) as caught:
                Desk(thing)
            self.assertIs(type(caught.exception), NoText)

    def test_handed_in_by_name(self):
        self.assertEqual(Desk(text=self.text).say(line="made"), "4 6")

    def test_two_desks_know_nothing_of_one_another(self):
        one, other = Desk(self.text), Desk(self.text)
        one.say("go 0")
        self.assertEqual(other.say("house"), self.text.replace("\n", ";"))
        self.assertEqual(other.say("made"), "4 6")


class Stories(unittest.TestCase):
    def check(self, dice, desk, beside):
        """What the desk tells now, held against the others."""
        self.assertEqual(said(desk, STATE), beside.state())
        house = beside.kept.house()
        tree = turns(house)
        box = samples.asked_boxes(dice, house, 1)[dice.randrange(5)]
        words = [part[1] for part in cover(house, tree, box)]
        self.assertEqual(desk.say("cover " + show_box(box)), f"{words.count('in')} {words.count('out')}")
        asks = samples.plain_asks(dice, box, len(house[1])) + samples.drawn_asks(dice, house, box)
        for ask in dice.sample(asks, 5):
            text = show_ask(ask)
            told, looks = beside.kept.ask(ask)
            self.assertEqual(desk.say(text), answer_plainly(answer(house, ask)))
            self.assertEqual(told, answer(house, ask))
            self.assertEqual(desk.say("looks " + text), str(looks))
        self.assertEqual(desk.say("ways " + text), "alike")

    def test_stories(self):
        dice = random.Random(380)
        for house in samples.some_houses(dice, (0, 1, 5)):
            desk, beside = Desk(show_house(house)), Beside(house)
            self.check(dice, desk, beside)
            for line, refusal in beside.deeds(dice, 25, range(12)):
                if refusal is None:
                    self.assertEqual(desk.say(line), "done")
                else:
                    with self.assertRaises(refusal) as caught:
                        desk.say(line)
                    self.assertIs(type(caught.exception), refusal)
                self.check(dice, desk, beside)

    def test_ways_of_all_words(self):
        dice = random.Random(381)
        for house in samples.some_houses(dice, (0, 1, 5, 12)):
            desk = Desk(show_house(house))
            for box in samples.asked_boxes(dice, house, 1)[-2:]:
                for ask in samples.plain_asks(dice, box, 3) + samples.drawn_asks(dice, house, box)[::3]:
                    self.assertEqual(desk.say("ways " + show_ask(ask)), "alike")

    def test_as_many_things_as_told(self):
        dice = random.Random(382)
        for d, many in ((2, 300), (4, 60)):
            house = samples.made_house(dice, d, many, range(-99, 100))
            desk, beside = Desk(show_house(house)), Beside(house)
            self.check(dice, desk, beside)
            for name in dice.sample(samples.names_of(house[1]), many // 2):
                beside.go(name)
                self.assertEqual(desk.say(f"go {name}"), "done")
            self.check(dice, desk, beside)

    def test_numbers_of_eighteen_figures(self):
        things = tuple((name, (samples.BIG, -samples.BIG), samples.BIG) for name in (5, samples.BIG))
        desk = Desk(show_house((2, things)))
        self.assertEqual(desk.say("sum -..- -..-"), str(2 * samples.BIG))
        self.assertEqual(desk.say("all [999999999999999999..- -..-999999999999999999]"), f"5 {samples.BIG}")
        self.assertEqual(desk.say(f"go {samples.BIG}"), "done")
        self.assertEqual(desk.say("parts"), f"1:5,({samples.BIG})")

    def test_numbers_of_some_thousand_figures(self):
        long = "1" + "0" * 5000
        desk = Desk("house 1")
        with self.assertRaises(NoThing):
            desk.say("go " + long)
        self.assertEqual(desk.say(f"come {long} 0 {long}"), "done")
        self.assertEqual(desk.say("parts"), "0:" + long)
        self.assertEqual(desk.say("sum -..-"), long)
        with self.assertRaises(Taken):
            desk.say(f"come {long} 0 0")

    def test_said_again_the_same_is_told(self):
        dice = random.Random(383)
        for house in samples.some_houses(dice, (1, 9)):
            desk = Desk(show_house(house))
            box = samples.asked_boxes(dice, house, 1)[-1]
            asks = samples.plain_asks(dice, box, 3) + samples.drawn_asks(dice, house, box)
            lines = [show_ask(ask) for ask in asks] + ["looks " + show_ask(ask) for ask in asks] + ["cover " + show_box(box)]
            first = said(desk, lines + list(STATE))
            self.assertEqual(said(desk, lines + list(STATE)), first)
            self.assertTrue(all(type(text) is str for text in first))

    def test_another_answer_would_be_told(self):
        # No way answers otherwise; where one did, the desk would say so.
        desk = Desk("house 1\n0 0 5")
        desk.kept.by_rank[0].tree = None
        self.assertNotEqual(desk.say("ways count -..-"), "alike")


if __name__ == "__main__":
    unittest.main()
