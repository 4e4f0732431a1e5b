"""A desk: a kept house to which lines are said."""

from boxlayers.answers import answer
from boxlayers.covers import cover
from boxlayers.errors import NoLine, NoText
from boxlayers.hanging import WAYS, kept_of, ran_by
from boxlayers.houses import is_thing
from boxlayers.keeping import most_made
from boxlayers.reading import read_ask, read_box, read_house, read_number, read_thing
from boxlayers.showing import show_house, show_number
from boxlayers.turns import turns


def show_numbers(numbers):
    """Numbers with blanks between, - for none."""
    return " ".join([show_number(number) for number in numbers]) if len(numbers) > 0 else "-"


def show_answer(told):
    """An answer: a number, a name or None, or a tuple of names."""
    if told is None:
        return "-"
    return show_numbers(told) if isinstance(told, tuple) else show_number(told)


def show_part(part):
    """A part of a kept house, gone names in brackets."""
    rank, names, gone = part
    shown = [show_number(name) for name in names]
    shown = ["(" + name + ")" if is_gone else name for name, is_gone in zip(shown, gone)]
    return show_number(rank) + ":" + ",".join(shown)


def show_parts(parts):
    """The parts of a kept house."""
    return " ".join([show_part(part) for part in parts]) if len(parts) > 0 else "-"


def show_cover(house, box):
    """How many parts of the cover of the house's tree by turns are in, and how many out."""
    words = [part[1] for part in cover(house, turns(house), box)]
    return show_numbers([words.count("in"), words.count("out")])


def are_alike(house, ask):
    """Whether all ways answer an ask as the plain one does, which stands in for a way that hasn't the ask."""
    told = (answer(house, ask),)
    return all([ran_by(way, house, (ask,))[0] == told for way in WAYS])


class Desk:
    """A desk of the house that a text writes."""

    def __init__(self, text):
        house = read_house(text)
        self.kept = kept_of(house)
        self.comings = len(house[1])
        self.goings = 0

    def say(self, line):
        """What the desk tells, line being anything; refused with NoLine, Taken and NoThing."""
        if not isinstance(line, str):
            raise NoLine("a line is a text")
        try:
            return self.told_alone(line) if line in ("made", "parts", "house") else self.told_of(line)
        except NoText:
            raise NoLine("this is no line of a desk") from None

    def told_alone(self, word):
        """What is told to a line of one word."""
        if word == "made":
            return show_numbers([self.kept.made(), most_made(self.comings, self.goings)])
        if word == "parts":
            return show_parts(self.kept.parts())
        return show_house(self.kept.house()).replace("\n", ";")

    def told_of(self, line):
        """What is told to a line of several words."""
        word, blank, rest = line.partition(" ")
        if word == "come":
            return self.come(rest)
        if word == "go":
            return self.go(rest)
        if word == "looks":
            return show_number(self.asked(rest)[1])
        if word == "cover":
            return show_cover(self.kept.house(), read_box(rest, self.kept.d))
        if word == "ways":
            return self.ways(rest)
        return show_answer(self.asked(line)[0])

    def asked(self, text):
        """(answer, looks) of the ask that a text writes."""
        return self.kept.ask(read_ask(text, self.kept.d))

    def come(self, text):
        """The thing that a text writes comes."""
        thing = read_thing(text)
        if not is_thing(thing, self.kept.d):
            raise NoLine("what comes is a thing")
        # What is refused isn't counted.
        self.kept.come(thing)
        self.comings += 1
        return "done"

    def go(self, text):
        """The thing whose name a text writes goes."""
        name = read_number(text)
        if name < 0:
            raise NoLine("a name is from 0 on")
        self.kept.go(name)
        self.goings += 1
        return "done"

    def ways(self, text):
        """Whether all ways, and the house that is kept here, answer the ask that a text writes alike."""
        ask = read_ask(text, self.kept.d)
        house = self.kept.house()
        is_kept_alike = self.kept.ask(ask)[0] == answer(house, ask)
        return "alike" if is_kept_alike and are_alike(house, ask) else "unlike"
