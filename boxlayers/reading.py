"""Boxes, asks and houses read from texts; what isn't written just as they are shown is refused."""

from boxlayers.asks import BOX_WORDS, PARTS, is_ask
from boxlayers.boxes import is_box
from boxlayers.errors import NoText
from boxlayers.houses import is_house

FIGURES = "0123456789"


def parted(text, sign):
    """The parts of text, which may be anything, between the signs; refused where it is no text."""
    if not isinstance(text, str):
        raise NoText("this is no text")
    return text.split(sign)


def read_number(text):
    """The number that a text writes."""
    figures = text[1:] if text.startswith("-") else text
    if figures == "" or not all([figure in FIGURES for figure in figures]):
        raise NoText("this is no number")
    if figures.startswith("0") and text != "0":
        raise NoText("a number has no 0 ahead")
    # Python's own way refuses texts of some thousand figures.
    number = 0
    for figure in figures:
        number = 10 * number + FIGURES.index(figure)
    return -number if text.startswith("-") else number


def read_end(text, bracket, number, brackets):
    """The end that a text writes, made of a bracket and a number; brackets tells how it is shut, and how open."""
    if text == "-":
        return None
    if bracket not in brackets:
        raise NoText("an end has a bracket")
    return (read_number(number), bracket == brackets[0])


def read_span(text):
    """The span that a text writes."""
    low, dots, high = text.partition("..")
    return (read_end(low, low[:1], low[1:], ("[", "(")), read_end(high, high[-1:], high[:-1], ("]", ")")))


def read_spans(words, d):
    """The box whose spans the words write."""
    box = tuple([read_span(word) for word in words])
    if not is_box(box, d):
        raise NoText("a box has a span for each number")
    return box


def read_box(text, d):
    """The box that a text writes."""
    return read_spans(parted(text, " "), d)


def read_place(text):
    """The numbers that a text writes, with , between."""
    return tuple([read_number(number) for number in text.split(",")])


def read_ask(text, d):
    """The ask that a text writes."""
    words = parted(text, " ")
    word = words[0]
    if word not in BOX_WORDS:
        raise NoText("an ask begins with its word")
    # In an ask the box comes first, in its text last.
    kinds = PARTS[word][1:]
    begin = 1 + len(kinds)
    parts = [read_place(part) if kind == "place" else read_number(part) for part, kind in zip(words[1:begin], kinds)]
    ask = (word, read_spans(words[begin:], d)) + tuple(parts)
    if not is_ask(ask, d):
        raise NoText("this is no ask")
    return ask


def read_thing(text):
    """The name, the place and the worth that a text writes; whether they make a thing is for others to see."""
    words = text.split(" ")
    if len(words) != 3:
        raise NoText("a thing has a name, a place and a worth")
    name, place, worth = words
    return (read_number(name), read_place(place), read_number(worth))


def read_house(text):
    """The house that a text writes."""
    first, *rows = parted(text, "\n")
    word, blank, number = first.partition(" ")
    if word != "house":
        raise NoText("a house begins with its word")
    house = (read_number(number), tuple([read_thing(row) for row in rows]))
    if not is_house(house):
        raise NoText("this is no house")
    return house
