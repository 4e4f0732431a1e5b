"""[24]: texts read; with [3] (g), what is written is read as it was, and nothing else is read."""

import random
import re
import unittest

import samples
from boxlayers.errors import BoxError, NoText
from boxlayers.reading import read_ask, read_box, read_house
from boxlayers.showing import show_ask, show_box, show_house

NUMBER = "(?:0|-?[1-9][0-9]*)"
FROM_ZERO = "(?:0|[1-9][0-9]*)"
SPAN = rf"(?:-|[\[(]{NUMBER})\.\.(?:-|{NUMBER}[\])])"
BIGS = [10 ** k + more for k in range(19) for more in (-1, 0, 1) if 0 < 10 ** k + more < 10 ** 18]
SIGNS = "0159-+.,;:[]() \n\t\r_x\u0663\uff11\u00b2\u00a0\x00"


def box_form(d):
    return " ".join([SPAN] * d)


def place_form(d):
    return ",".join([NUMBER] * d)


def ask_form(d):
    plain = f"(?:count|sum|least|most|all|(?:first|best) {FROM_ZERO}|near {place_form(d)} {FROM_ZERO})"
    return f"{plain} {box_form(d)}"


def is_house_text(text):
    """Whether a text writes a house, as the document tells it."""
    for d in range(1, 5):
        if re.fullmatch(f"house {d}(?:\n{FROM_ZERO} {place_form(d)} {NUMBER})*", text):
            names = [int(row.split(" ")[0]) for row in text.split("\n")[1:]]
            return names == sorted(set(names))
    return False


def otherwise(dice, text, many):
    """Texts with a sign put in, left out, exchanged, twice, two exchanged; words and rows mixed, left out, twice."""
    for each in range(many):
        at, other = sorted(dice.randrange(len(text) + 1) for side in (0, 1))
        sign = dice.choice(SIGNS)
        yield text[:at] + sign + text[at:]
        yield text[:at] + text[at + 1:]
        yield text[:at] + sign + text[at + 1:]
        yield text[:at] + text[at:at + 1] + text[at:]
        yield text[:at] + text[at:other][::-1] + text[other:]
        yield text[:at] + text[other:]
        for sign in (" ", "\n", ",", ".."):
            words = text.split(sign)
            place = dice.randrange(len(words))
            yield sign.join(words[:place] + words[place + 1:])
            yield sign.join(words[:place] + words[place:place + 1] + words[place:])
            yield sign.join(dice.sample(words, len(words)))


class Reading(unittest.TestCase):
    def refused(self, read, *handed):
        with self.assertRaises(NoText) as caught:
            read(*handed)
        self.assertIs(type(caught.exception), NoText)

    def check(self, read, show, text, is_so, *more):
        """What is just so written is read, and shown as the very text; else it is refused."""
        if is_so:
            self.assertEqual(show(read(text, *more)), text)
        else:
            self.refused(read, text, *more)
        return bool(is_so)


class ByHand(Reading):
    def test_boxes(self):
        for text, box in [
            ("-..-", ((None, None),)), ("[-5..3)", (((-5, True), (3, False)),)), ("(0..0]", (((0, False), (0, True)),)),
            ("-..-7]", ((None, (-7, True)),)), ("(-7..-", (((-7, False), None),)), ("[5..-5]", (((5, True), (-5, True)),)),
            ("-..- [1..2]", ((None, None), ((1, True), (2, True)))), ("-..- -..- -..- (9..-", ((None, None),) * 3 + (((9, False), None),)),
            ("[999999999999999999..-999999999999999999)", (((samples.BIG, True), (-samples.BIG, False)),)),
        ]:
            for d in range(1, 5):
                if d == len(box):
                    self.assertTrue(samples.is_like(read_box(text, d), box), text)
                else:
                    self.refused(read_box, text, d)

    def test_no_boxes(self):
        for text in [
            "", " ", "-", "..", "-..", "..-", "-.-", "-...-", "- ..-", "-.. -", " -..-", "-..- ", "-..-\n", "\n-..-", "--..-", "-..--",
            "5..6", "[5..6", "5..6]", "]5..6[", ")5..6(", "[5,6]", "[5.6]", "[5...6]", "[5..6..7]", "{5..6}", "[..6]", "[5..]", "[-..6]",
            "[5..-]", "(-..-)", "[-0..6]", "[00..6]", "[05..6]", "[+5..6]", "[5..-0]", "[5..06]", "[5..+6]", "[ 5..6]", "[5 ..6]",
            "[5_0..6]", "[5.0..6]", "[5e1..6]", "[0x5..6]", "[\u0665..6]", "[\uff15..6]", "[5..\u0666]", "[\u00b2..6]", "[--5..6]",
            "[[5..6]", "[5..6]]", "[5..6)]", "([5..6]", "[5..6]-..-", "[5..6],-..-", "None..None", "[five..6]", "-..-;", "[5..6]\t",
        ]:
            for d in range(1, 5):
                self.refused(read_box, text, d)

    def test_asks(self):
        box = (((1, True), (2, False)), (None, None))
        for word in ("count", "sum", "least", "most", "all"):
            self.assertEqual(read_ask(word + " [1..2) -..-", 2), (word, box))
            for text in (word, word + " ", word + " 3 [1..2) -..-", word + " [1..2)", word + " 1,2 3 [1..2) -..-", word.upper() +
                         " [1..2) -..-", word + "  [1..2) -..-", " " + word + " [1..2) -..-", word + " [1..2) -..- "):
                self.refused(read_ask, text, 2)
        self.assertEqual(read_ask("first 0 [1..2) -..-", 2), ("first", box, 0))
        self.assertEqual(read_ask("best 999999999999999999 [1..2) -..-", 2), ("best", box, samples.BIG))
        self.assertEqual(read_ask("near -3,0 7 [1..2) -..-", 2), ("near", box, (-3, 0), 7))

    def test_no_asks(self):
        for text in [
            "", " ", "first [1..2) -..-", "first -1 [1..2) -..-", "first 01 [1..2) -..-", "first [1..2) -..- 1", "first 1,2 [1..2) -..-",
            "first 1 1 [1..2) -..-", "first  1 [1..2) -..-", "first 1  [1..2) -..-", "best", "best 1", "best 1 ", "best -0 [1..2) -..-",
            "near 1,2 [1..2) -..-", "near 3 1,2 [1..2) -..-", "near 1 3 [1..2) -..-", "near 1,2,3 3 [1..2) -..-", "near 1, 2 3 [1..2) -..-",
            "near 1,2 -3 [1..2) -..-", "near 1,2 3 [1..2)", "near 1,2 3", "near 1,2", "near", "near ,1 3 [1..2) -..-", "near 1,,2 3 [1..2) -..-",
            "near 1,2, 3 [1..2) -..-", "number 3 0", "worth 3", "number 3 [1..2) -..-", "come 1 2,3 4", "house 2", "nothing [1..2) -..-",
            "[1..2) -..-", "count\n[1..2) -..-", "count\t[1..2) -..-", "count [1..2) -..-\n", "sum count [1..2) -..-", "best 3 [1..2)\n-..-",
        ]:
            self.refused(read_ask, text, 2)

    def test_houses(self):
        for text, house in [
            ("house 1", (1, ())), ("house 4", (4, ())), ("house 1\n0 0 0", (1, ((0, (0,), 0),))),
            ("house 2\n0 4,-1 10\n3 5,0 -2", (2, ((0, (4, -1), 10), (3, (5, 0), -2)))),
            ("house 4\n7 1,2,3,4 5", (4, ((7, (1, 2, 3, 4), 5),))),
        ]:
            self.assertTrue(samples.is_like(read_house(text), house))

    def test_no_houses(self):
        for text in [
            "", "house", "house ", "house 0", "house 5", "house -1", "house 01", "house +1", "house one", "House 1", " house 1", "house  1",
            "house 1 ", "house 1\n", "\nhouse 1", "house 1\n\n0 0 0", "house 1\n0 0 0\n", "house 1\n0 0 0 ", "house 1\n 0 0 0",
            "house 1\n0  0 0", "house 1\n0 0", "house 1\n0 0 0 0", "house 1\n0 0,0 0", "house 2\n0 0 0", "house 2\n0 0,0,0 0",
            "house 2\n0 0, 0 0", "house 2\n0 0 0 0", "house 1\n-1 0 0", "house 1\n-0 0 0", "house 1\n0 -0 0", "house 1\n0 0 -0",
            "house 1\n00 0 0", "house 1\n0 00 0", "house 1\n0 0 00", "house 1\n+0 0 0", "house 1\n1 +1 0", "house 1\n1 1 +1",
            "house 1\n1 0 0\n1 0 0", "house 1\n1 0 0\n0 0 0", "house 1\n0 0 0\n2 0 0\n1 0 0", "house 1\r\n0 0 0", "house 1;0 0 0",
            "house 1 0 0 0", "house\n1", "house 1\n0\n0\n0", "house \u0661", "house 1\n\u0661 0 0", "house 1\n1 0 \u0661", "house 1\n1 0 1.0",
            "house 1\n0 0 0\nhouse 1", "1\n0 0 0", "house 1\n0 0 0\n\n1 0 0",
        ]:
            self.refused(read_house, text)

    def test_no_texts(self):
        for thing in samples.odd_things() + [b"-..-", b"house 1", ["house 1"], ("-..-",), ((None, None),), (1, ()), bytearray(b"house 1")]:
            for d in range(1, 5):
                self.refused(read_box, thing, d)
                self.refused(read_ask, thing, d)
            self.refused(read_house, thing)

    def test_straight_under_box_error(self):
        self.assertEqual(NoText.__bases__, (BoxError,))


class Read(Reading):
    def test_boxes_and_asks_as_they_were(self):
        dice = random.Random(370)
        for house in samples.some_houses(dice, (0, 3)):
            d = house[0]
            for box in samples.asked_boxes(dice, house, 8) + samples.boxes(dice, d, 4, (-BIGS[3], -10, 0, 7, BIGS[9])):
                self.assertTrue(samples.is_like(read_box(show_box(box), d), box))
                for ask in samples.plain_asks(dice, box, 3) + samples.drawn_asks(dice, house, box) + [("best", box, samples.BIG)]:
                    self.assertTrue(samples.is_like(read_ask(show_ask(ask), d), ask))

    def test_houses_as_they_were(self):
        dice = random.Random(371)
        for house in samples.some_houses(dice, (0, 1, 2, 9, 60)):
            self.assertTrue(samples.is_like(read_house(show_house(house)), house))

    def test_as_many_things_as_told(self):
        dice = random.Random(372)
        for d, many in ((1, 300), (3, 300), (4, 60)):
            house = samples.made_house(dice, d, many, range(-999, 1000), range(-99999, 99999))
            text = show_house(house)
            self.assertGreater(len(text), 1000)
            self.assertTrue(samples.is_like(read_house(text), house))
        house = samples.made_house(dice, 4, 60, (-samples.BIG, samples.BIG), (samples.BIG,))
        self.assertGreater(len(show_house(house)), 4000)
        self.assertTrue(samples.is_like(read_house(show_house(house)), house))

    def test_numbers_of_all_sizes(self):
        dice = random.Random(373)
        for number in BIGS + [dice.randrange(10 ** k) for k in range(1, 30)]:
            for each in (number, -number):
                self.assertTrue(samples.is_like(read_box(f"[{each}..{each})", 1), (((each, True), (each, False)),)))
                self.refused(read_box, f"[0{each}..-", 1)
                self.refused(read_box, f"[+{each}..-", 1)
                self.refused(read_box, f"[{each} ..-", 1)

    def test_numbers_of_some_thousand_figures(self):
        for figures in (4300, 4301, 7990):
            text = "-..-1" + "0" * (figures - 1) + "]"
            box = read_box(text, 1)
            self.assertEqual(box, ((None, (-10 ** (figures - 1), True)),))
            self.assertEqual(show_box(box), text)
            self.refused(read_box, text[:-1] + "x]", 1)

    def test_boxes_with_signs_otherwise(self):
        dice = random.Random(374)
        seen = [0, 0]
        for house in samples.some_houses(dice, (0, 3)):
            d = house[0]
            for box in samples.asked_boxes(dice, house, 3):
                for text in otherwise(dice, show_box(box), 25):
                    seen[self.check(read_box, show_box, text, re.fullmatch(box_form(d), text), d)] += 1
        self.assertGreater(min(seen), 500)

    def test_asks_with_signs_otherwise(self):
        dice = random.Random(375)
        seen = [0, 0]
        for house in samples.some_houses(dice, (3,)):
            d = house[0]
            box = samples.asked_boxes(dice, house, 1)[-1]
            for ask in samples.plain_asks(dice, box, 3) + samples.drawn_asks(dice, house, box):
                for text in otherwise(dice, show_ask(ask), 6):
                    seen[self.check(read_ask, show_ask, text, re.fullmatch(ask_form(d), text), d)] += 1
        self.assertGreater(min(seen), 500)

    def test_houses_with_signs_otherwise(self):
        dice = random.Random(376)
        seen = [0, 0]
        for house in samples.some_houses(dice, (0, 1, 2, 4)):
            for text in otherwise(dice, show_house(house), 25):
                seen[self.check(read_house, show_house, text, is_house_text(text))] += 1
        self.assertGreater(min(seen), 500)

    def test_handed_in_by_name_and_asked_again(self):
        for each in range(2):
            self.assertEqual(read_box(text="-..-", d=1), ((None, None),))
            self.assertEqual(read_ask(text="count -..-", d=1), ("count", ((None, None),)))
            self.assertEqual(read_house(text="house 1"), (1, ()))


if __name__ == "__main__":
    unittest.main()
