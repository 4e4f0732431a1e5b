"""What the tests have in common: ends, boxes and places to ask with, and things that are none."""

import itertools

BIG = 10 ** 18 - 1
WORDS = ("count", "sum", "least", "most", "all", "first", "best", "near")


class Unwilling:
    """An object that fails at whatever is asked of it."""

    def fail(self, *args):
        raise RuntimeError("asked")

    __eq__ = __ne__ = __lt__ = __le__ = __gt__ = __ge__ = fail
    __len__ = __iter__ = __getitem__ = __hash__ = __bool__ = __contains__ = fail
    __int__ = __index__ = __add__ = __neg__ = __abs__ = __str__ = __repr__ = fail


def nested(make, depth):
    """Nothing, within so many of a kind, one in another."""
    thing = make([])
    for level in range(depth - 1):
        thing = make([thing])
    return thing


def odd_things():
    """Things that are no place, no box, no plain box, no house and no ask, whatever d is."""
    ring = []
    ring.append(ring)
    return [
        None, True, False, 0, 1, -7, BIG, 2.5, float("nan"), float("inf"), 3j, ...,
        "", "count", "a longer text", b"", b"count", bytearray(b"x"),
        (), [], {}, set(), frozenset(), {1: 2}, {"count": ((None, None),)}, {1, 2}, range(3), iter([1]),
        object(), Unwilling(), int, tuple, len, ValueError("x"), lambda: 1,
        (Unwilling(),), (Unwilling(), Unwilling()), ([],), ({},), (None,), (None, None), (True,), ("count",),
        ((),), ((), ()), ((), (), ()), ((), (), (), ()), ([1], [2]), "12", ("1", "2"), (1.0,), (1.0, 2.0),
        nested(tuple, 40), nested(list, 40), (1, nested(tuple, 39)), ("count", nested(tuple, 39)),
        (nested(list, 39), nested(list, 39)), nested(lambda parts: {"in": parts}, 20), ring, (ring, ring),
    ]


def spoiled_leaf(leaf):
    """What no leaf may be exchanged for where the whole is to stay what it is."""
    wrong = [[leaf], (leaf,), "", "x", b"x", 1.5, {}, [], (), object(), Unwilling(), ("of", 0, 0)]
    if isinstance(leaf, bool):
        return wrong + [int(leaf), None, str(leaf)]
    if isinstance(leaf, int):
        return wrong + [True, False, None, float(leaf), str(leaf)]
    if leaf is None:
        return wrong + [0, True, False]
    return wrong + [0, 1, True, None, leaf.upper(), leaf + " ", leaf[1:], leaf.encode(), Unwilling()]


def spoiled(thing):
    """The thing with one part otherwise: of another kind, a list for a tuple, a part more or less."""
    if not isinstance(thing, tuple):
        return spoiled_leaf(thing)
    others = [list(thing), dict(enumerate(thing)), thing[:-1], thing[1:], thing + (0,), thing + thing[-1:]]
    for at, part in enumerate(thing):
        others += [thing[:at] + (other,) + thing[at + 1:] for other in spoiled(part)]
    return others


def ends(numbers):
    """No end, and the shut and the open end at each number."""
    return [None] + [(number, shut) for number in numbers for shut in (True, False)]


def spans(numbers):
    return list(itertools.product(ends(numbers), repeat=2))


def boxes(dice, d, many, numbers):
    """Boxes by a seeded source."""
    choices = spans(numbers)
    return [tuple(dice.choice(choices) for i in range(d)) for each in range(many)]


def window(d, least, greatest):
    """All places of numbers from least to greatest."""
    return list(itertools.product(range(least, greatest + 1), repeat=d))


def number_fits(span, number):
    """As the document tells it, end by end."""
    low, high = span
    above = low is None or number > low[0] or (number == low[0] and low[1] is True)
    below = high is None or number < high[0] or (number == high[0] and high[1] is True)
    return above and below


def place_fits(box, place):
    return all(number_fits(box[i], place[i]) for i in range(len(box)))


def whole(d):
    """The box that all places fit."""
    return ((None, None),) * d


def edge_boxes(d):
    """The box of all None, and boxes that nothing fits, each in its own way."""
    crossed = [((3, True), (2, True)), ((2, False), (3, False)), ((2, False), (2, True)), ((BIG, True), (-BIG, True))]
    some = [(whole(d)[:i] + (span,) + whole(d)[i + 1:]) for i in range(d) for span in crossed]
    far = [((BIG, True), None), (None, (-BIG, True)), ((-BIG, True), (BIG, True)), ((-BIG, False), (BIG, False))]
    return [whole(d)] + some + [(span,) * d for span in far + crossed]


def made_house(dice, d, many, numbers=range(-4, 5), worths=range(-9, 10)):
    """A house of so many things by a seeded source, names with gaps between."""
    names = sorted(dice.sample(range(3 * many + 1), many))
    return (d, tuple((name, tuple(dice.choice(numbers) for i in range(d)), dice.choice(worths)) for name in names))


def things_in(house, box):
    """The things that fit, as the document tells it."""
    return [thing for thing in house[1] if place_fits(box, thing[1])]


def put(names, is_ahead):
    """The names with each at the position of how many are ahead of it."""
    row = [None] * len(names)
    for name in names:
        row[sum(is_ahead(other, name) for other in names)] = name
    return tuple(row)
