"""Rows of asks that hang on one another, answered by each way."""

from boxlayers.answers import answer
from boxlayers.asks import PARTS, has_form, has_parts
from boxlayers.corners import Corners
from boxlayers.errors import NoNumber
from boxlayers.houses import thing_of
from boxlayers.keeping import Kept
from boxlayers.kinds import is_below, is_d, is_tuple_of, is_whole
from boxlayers.layerasks import by_layers
from boxlayers.layers import layers
from boxlayers.markasks import by_marks
from boxlayers.marks import marked
from boxlayers.turnasks import by_turns
from boxlayers.turns import turns

ROW_WORDS = ("count", "sum", "least", "most", "all", "first", "best", "near", "number", "worth")
WAYS = ("corners", "layers", "turns", "marks", "kept")
# The words that each way has asks of; the plain way has none of its own.
WORDS_OF_WAYS = {
    "corners": ("count", "sum"),
    "layers": ("count", "sum", "least", "most", "all", "first"),
    "turns": ("count", "sum", "least", "most", "all", "first", "best", "near"),
    "marks": ("count", "sum"),
    "kept": ("count", "sum", "least", "most", "all", "first", "best", "near"),
    "plainly": (),
}
MOST_CORNER_NUMBERS = 3
MOST_CORNER_THINGS = 40
MARKED_NUMBERS = 2


def is_of(thing, at):
    """Whether thing, which may be anything, is ("of", j, more) with the j-th ask ahead of that at at."""
    if not (is_tuple_of(thing, 3) and isinstance(thing[0], str) and thing[0] == "of"):
        return False
    return is_below(thing[1], at) and is_whole(thing[2])


def end_with(end, put):
    """The end with what put tells for its number; what is no end stays as it is, and so below."""
    return (put(end[0]), end[1]) if is_tuple_of(end, 2) else end


def span_with(span, put):
    """The span with what put tells for each number."""
    return tuple([end_with(end, put) for end in span]) if is_tuple_of(span, 2) else span


def part_with(part, kind, d, put):
    """A part of an ask, of that kind, with what put tells for each number that may hang on other asks."""
    if kind == "box":
        return tuple([span_with(span, put) for span in part]) if is_tuple_of(part, d) else part
    if kind == "place":
        return tuple([put(number) for number in part]) if is_tuple_of(part, d) else part
    return part if kind == "i" else put(part)


def ask_with(ask, d, put):
    """What has the form of an ask, with what put tells for each number that may hang on other asks."""
    return ask[:1] + tuple([part_with(part, kind, d, put) for part, kind in zip(ask[1:], PARTS[ask[0]])])


def is_row_ask(thing, d, at):
    """Whether thing, which may be anything, may stand at at in a row of asks."""
    if not has_form(thing, ROW_WORDS):
        return False
    # What answers come to is seen when they are there; here 0 stands for any number.
    return has_parts(ask_with(thing, d, lambda number: 0 if is_of(number, at) else number), d)


def is_row(thing, d):
    """Whether thing, which may be anything, is a tuple of asks of which each may hang on those ahead of it."""
    if not (is_d(d) and isinstance(thing, tuple)):
        return False
    return all([is_row_ask(ask, d, at) for at, ask in enumerate(thing)])


def number_for(number, answers):
    """The number that stands for number in the ask behind these answers; refused where the answer is none."""
    if is_whole(number):
        return number
    word, j, more = number
    if not is_whole(answers[j]):
        raise NoNumber(len(answers))
    return answers[j] + more


def settled_ask(ask, d, answers):
    """The ask behind these answers with numbers for all that hangs on them; refused where it is none then."""
    settled = ask_with(ask, d, lambda number: number_for(number, answers))
    if PARTS[ask[0]][-1] == "k" and settled[-1] < 0:
        raise NoNumber(len(answers))
    return settled


def suits(way, house):
    """Whether the way is there for such houses."""
    d, things = house
    if way == "corners":
        return d <= MOST_CORNER_NUMBERS and len(things) <= MOST_CORNER_THINGS
    return way != "marks" or d == MARKED_NUMBERS


def kept_of(house):
    """The kept house to which all things came by rising names."""
    d, things = house
    kept = Kept(d)
    for thing in things:
        kept.come(thing)
    return kept


def made_for(way, house):
    """What the way asks, None where it doesn't ask anything."""
    if way == "plainly" or not suits(way, house):
        return None
    if way == "corners":
        return Corners(house)
    if way == "layers":
        return layers(house)
    if way == "turns":
        return turns(house)
    return marked(house) if way == "marks" else kept_of(house)


def counted(told, ask):
    """(answer, looks) of count or sum out of (count, sum, looks)."""
    count, worth, looks = told
    return (count if ask[0] == "count" else worth, looks)


def asked_by(way, house, made, ask):
    """(answer, looks) of an ask that the way has, made being what it asks."""
    if way == "corners":
        return counted(made.ask(ask[1]), ask)
    if way == "marks":
        return counted(by_marks(house, made, ask[1]), ask)
    if way == "layers":
        return by_layers(house, made, ask)
    if way == "turns":
        return by_turns(house, made, ask)
    return made.ask(ask)


def told_by(way, house, made, ask):
    """(answer, looks) of any settled ask: what the way hasn't is answered plainly, without looks."""
    if ask[0] in ("number", "worth"):
        name, place, worth = thing_of(house, ask[1])
        return (place[ask[2]] if ask[0] == "number" else worth, 0)
    if suits(way, house) and ask[0] in WORDS_OF_WAYS[way]:
        return asked_by(way, house, made, ask)
    return (answer(house, ask), 0)


def ran_by(way, house, row):
    """(answers, looks) of the asks by that way; refused as ran is."""
    made = made_for(way, house)
    answers = []
    looks = 0
    for ask in row:
        told, more = told_by(way, house, made, settled_ask(ask, house[0], answers))
        answers.append(told)
        looks += more
    return (tuple(answers), looks)


def ran(house, row):
    """The answers of the asks, by going through all things; refused with NoNumber and NoThing."""
    return ran_by("plainly", house, row)[0]
