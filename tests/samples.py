"""What the tests have in common: ends, boxes and places to ask with, and things that are none."""

import itertools

BIG = 10 ** 18 - 1
WORDS = ("count", "sum", "least", "most", "all", "first", "best", "near")


class Unwilling:
    """An object that fails at whatever is asked of it."""

    def fail(self, *args):
        raise RuntimeError("asked")

    __eq__ = __ne__ = __lt__ = __le__ = __gt__ = __ge__ = fail
    __len__ = __iter__ = __getitem__ = __hash__ = __bool__ = __contains__ = fail
    __int__ = __index__ = __add__ = __neg__ = __abs__ = __str__ = __repr__ = fail


def nested(make, depth):
    """Nothing, within so many of a kind, one in another."""
    thing = make([])
    for level in range(depth - 1):
        thing = make([thing])
    return thing


def odd_things():
    """Things that are no place, no box, no plain box, no house and no ask, whatever d is."""
    ring = []
    ring.append(ring)
    return [
        None, True, False, 0, 1, -7, BIG, 2.5, float("nan"), float("inf"), 3j, ...,
        "", "count", "a longer text", b"", b"count", bytearray(b"x"),
        (), [], {}, set(), frozenset(), {1: 2}, {"count": ((None, None),)}, {1, 2}, range(3), iter([1]),
        object(), Unwilling(), int, tuple, len, ValueError("x"), lambda: 1,
        (Unwilling(),), (Unwilling(), Unwilling()), ([],), ({},), (None,), (None, None), (True,), ("count",),
        ((),), ((), ()), ((), (), ()), ((), (), (), ()), ([1], [2]), "12", ("1", "2"), (1.0,), (1.0, 2.0),
        nested(tuple, 40), nested(list, 40), (1, nested(tuple, 39)), ("count", nested(tuple, 39)),
        (nested(list, 39), nested(list, 39)), nested(lambda parts: {"in": parts}, 20), ring, (ring, ring),
    ]


def spoiled_leaf(leaf):
    """What no leaf may be exchanged for where the whole is to stay what it is."""
    wrong = [[leaf], (leaf,), "", "x", b"x", 1.5, {}, [], (), object(), Unwilling(), ("of", 0, 0)]
    if isinstance(leaf, bool):
        return wrong + [int(leaf), None, str(leaf)]
    if isinstance(leaf, int):
        return wrong + [True, False, None, float(leaf), str(leaf)]
    if leaf is None:
        return wrong + [0, True, False]
    return wrong + [0, 1, True, None, leaf.upper(), leaf + " ", leaf[1:], leaf.encode(), Unwilling()]


def spoiled(thing):
    """The thing with one part otherwise: of another kind, a list for a tuple, a part more or less."""
    if not isinstance(thing, tuple):
        return spoiled_leaf(thing)
    others = [list(thing), dict(enumerate(thing)), thing[:-1], thing[1:], thing + (0,), thing + thing[-1:]]
    for at, part in enumerate(thing):
        others += [thing[:at] + (other,) + thing[at + 1:] for other in spoiled(part)]
    return others


def ends(numbers):
    """No end, and the shut and the open end at each number."""
    return [None] + [(number, shut) for number in numbers for shut in (True, False)]


def spans(numbers):
    return list(itertools.product(ends(numbers), repeat=2))


def boxes(dice, d, many, numbers):
    """Boxes by a seeded source."""
    choices = spans(numbers)
    return [tuple(dice.choice(choices) for i in range(d)) for each in range(many)]


def window(d, least, greatest):
    """All places of numbers from least to greatest."""
    return list(itertools.product(range(least, greatest + 1), repeat=d))


def number_fits(span, number):
    """As the document tells it, end by end."""
    low, high = span
    above = low is None or number > low[0] or (number == low[0] and low[1] is True)
    below = high is None or number < high[0] or (number == high[0] and high[1] is True)
    return above and below


def place_fits(box, place):
    return all(number_fits(box[i], place[i]) for i in range(len(box)))


def whole(d):
    """The box that all places fit."""
    return ((None, None),) * d


def edge_boxes(d):
    """The box of all None, and boxes that nothing fits, each in its own way."""
    crossed = [((3, True), (2, True)), ((2, False), (3, False)), ((2, False), (2, True)), ((BIG, True), (-BIG, True))]
    some = [(whole(d)[:i] + (span,) + whole(d)[i + 1:]) for i in range(d) for span in crossed]
    far = [((BIG, True), None), (None, (-BIG, True)), ((-BIG, True), (BIG, True)), ((-BIG, False), (BIG, False))]
    return [whole(d)] + some + [(span,) * d for span in far + crossed]


def made_house(dice, d, many, numbers=range(-4, 5), worths=range(-9, 10)):
    """A house of so many things by a seeded source, names with gaps between."""
    names = sorted(dice.sample(range(3 * many + 1), many))
    return (d, tuple((name, tuple(dice.choice(numbers) for i in range(d)), dice.choice(worths)) for name in names))


def things_in(house, box):
    """The things that fit, as the document tells it."""
    return [thing for thing in house[1] if place_fits(box, thing[1])]


def put(names, is_ahead):
    """The names with each at the position of how many are ahead of it."""
    row = [None] * len(names)
    for name in names:
        row[sum(is_ahead(other, name) for other in names)] = name
    return tuple(row)


def some_houses(dice, counts=(0, 1, 2, 3, 6, 13, 30), ds=(1, 2, 3, 4)):
    """Houses of so many things: all at one place, many alike in some numbers, far apart, of eighteen figures."""
    kinds = ((range(5, 6), range(0, 2)), (range(0, 2), range(-9, 10)), (range(-4, 5), range(-2, 3)))
    kinds += ((range(-99, 100), range(-999, 1000)), ((-BIG, 1 - BIG, 0, BIG), (-BIG, 0, BIG)))
    for d in ds:
        for at, many in enumerate(counts):
            for numbers, worths in (kinds if many > 1 else kinds[at::4]):
                yield made_house(dice, d, many, numbers, worths)


def asked_span(dice, numbers):
    """A span with ends none, open or shut, at one of the numbers or beside it; now and then crossed."""
    one, other = sorted(dice.choice(numbers) + dice.choice((-1, 0, 0, 1)) for each in range(2))
    low = None if dice.random() < 0.3 else (one, dice.random() < 0.6)
    high = None if dice.random() < 0.3 else (other, dice.random() < 0.6)
    if low and high and dice.random() < 0.05:
        low, high = high, low
    return (low, high)


def asked_boxes(dice, house, many):
    """The whole, the empty ones and so many boxes more, with ends at numbers that are there and beside them."""
    d, things = house
    numbers = [[thing[1][i] for thing in things] + [0] for i in range(d)]
    edges = edge_boxes(d)
    few = edges[:2] + [dice.choice(edges), dice.choice(edges)]
    return few + [tuple(asked_span(dice, numbers[i]) for i in range(d)) for each in range(many)]


def plain_asks(dice, box, many):
    """The asks without near and best, first of k 0, 1, some, all and more than there are."""
    asks = [(word, box) for word in ("count", "sum", "least", "most", "all")]
    return asks + [("first", box, k) for k in (0, 1, dice.randint(0, many), many, many + 3)]


def drawn_asks(dice, house, box):
    """The asks near and best of several k; near of places among the things, beside them and far off."""
    d, things = house
    many = len(things)
    places = [dice.choice(things)[1]] if things else []
    places += [tuple(dice.randint(-6, 6) for i in range(d)), (BIG,) * d]
    asks = [("best", box, k) for k in (0, 1, dice.randint(0, many), many, many + 3)]
    return asks + [("near", box, place, k) for place in places for k in (0, 1, dice.randint(0, many), many + 3)]


def in_order(things, i):
    """The things by number i, then by the next ones, round, then by name."""
    return sorted(things, key=lambda thing: (thing[1][i:], thing[1][:i], thing[0]))


def halved_up(count):
    return count // 2 + count % 2


def names_of(things):
    return tuple(thing[0] for thing in things)


def parted_layers(d, things, part_at=halved_up, i=0):
    """A layer of i of the things, part_at telling of how many names how many low has; None of no things."""
    if not things:
        return None
    row = in_order(things, i)
    inner = parted_layers(d, row, part_at, i + 1) if i + 1 < d else None
    if len(row) == 1:
        return (names_of(row), None, None, inner)
    many = part_at(len(row))
    low, high = parted_layers(d, row[:many], part_at, i), parted_layers(d, row[many:], part_at, i)
    return (names_of(row), low, high, inner)


def bounds_of(things):
    """The least and the greatest of each number."""
    return tuple((min(row), max(row)) for row in zip(*[thing[1] for thing in things]))


def parted_tree(things, part, depth=0):
    """A tree of the things, part telling of things and a depth which are those of low; None of no things."""
    if not things:
        return None
    names = tuple(sorted(names_of(things)))
    if len(things) == 1:
        return (names, bounds_of(things), None, None)
    low = part(things, depth)
    high = [thing for thing in things if thing not in low]
    return (names, bounds_of(things), parted_tree(low, part, depth + 1), parted_tree(high, part, depth + 1))


def turned_tree(house):
    """The tree that halves by each number in turn."""
    d = house[0]
    return parted_tree(list(house[1]), lambda things, depth: in_order(things, depth % d)[:halved_up(len(things))])


def any_tree(dice, house):
    """A tree of any splits."""
    return parted_tree(list(house[1]), lambda things, depth: dice.sample(things, dice.randint(1, len(things) - 1)))


def thin_tree(house, high=False):
    """A tree that is as deep as it has names."""
    return parted_tree(list(house[1]), lambda things, depth: things[:-1] if high else things[:1])


def both_trees(dice, house):
    """The tree by turns, and one of any splits."""
    return [turned_tree(house), any_tree(dice, house)]


def trees_within(tree):
    """The tree, and all those within it."""
    found = [] if tree is None else [tree]
    for each in found:
        found += [half for half in each[2:4] if half is not None]
    return found


def put_otherwise(thing, change):
    """The thing with one part, however deep, put as each that change tells of it."""
    others = list(change(thing))
    if isinstance(thing, tuple):
        for at, part in enumerate(thing):
            others += [thing[:at] + (other,) + thing[at + 1:] for other in put_otherwise(part, change)]
    return others


def changes(part):
    """What a part of a tree is put as: of another kind, moved, turned about, left out, one more, one twice."""
    if isinstance(part, tuple):
        turned = [part[::-1], part[1:] + part[:1], part[:1] + part[1:2] * 2 + part[3:], part[:1] + part[:0:-1]]
        shorter = [part[:-1], part[1:], part[:1] + part[2:]]
        return turned + shorter + [list(part), part + part[-1:], part[:1] + part, part + (0,), (part,), None, (), 0, "x"]
    if isinstance(part, int):
        return [part + 1, part - 1, -part, True, False, None, str(part), float(part), (part,), [part], Unwilling()]
    return [0, False, True, (), [], "", "None", Unwilling()]


def is_like(one, other):
    """Whether two things are of the same kinds and alike, all through."""
    if type(one) is not type(other):
        return False
    if isinstance(one, tuple):
        return len(one) == len(other) and all(is_like(mine, yours) for mine, yours in zip(one, other))
    return one == other


def is_told(thing):
    """Whether a thing is made of tuples, whole numbers, texts, truths and None alone."""
    if type(thing) is tuple:
        return all(is_told(part) for part in thing)
    return thing is None or type(thing) in (int, str, bool)


def powers_and_beside(most):
    """Numbers from 0 on, powers of two, one less and one more, and the most."""
    powers = [2 ** k + more for k in range(12) for more in (-1, 0, 1)]
    return sorted({number for number in list(range(0, 41)) + powers + [100, most - 1, most] if 0 <= number <= most})


def search_looks(row, number):
    """The looks that a search for number takes in row, as [8] counts them."""
    low, high, looks = 0, len(row), 0
    while low < high:
        looks += 1
        low, high = ((low + high) // 2 + 1, high) if row[(low + high) // 2] < number else (low, (low + high) // 2)
    return looks


def halvings(n):
    """How often n is halved up until it is 1."""
    return 0 if n == 1 else 1 + halvings(halved_up(n))


def ways_out(bounds, plain):
    """Each (i, side) by which all numbers i are below least or above greatest, of the empty box all of them."""
    ways = []
    for i, ((first, last), (least, greatest)) in enumerate(zip(bounds, plain)):
        if (least, greatest) == (1, 0) or (least is not None and last < least):
            ways.append((i, 0))
        if (least, greatest) == (1, 0) or (greatest is not None and first > greatest):
            ways.append((i, 1))
    return ways


def is_within(bounds, plain):
    """Whether each place of the bounds, which aren't the empty one, fits the plain box."""
    return all(
        (least is None or least <= first) and (greatest is None or last <= greatest)
        for (first, last), (least, greatest) in zip(bounds, plain))


def kind_of(ask):
    """What is drawn for near or best."""
    return ("best",) if ask[0] == "best" else ("near", ask[2])


def at_path(tree, path):
    """The tree at the path, None where it leads nowhere."""
    for turn in path:
        tree = None if tree is None else tree[2 + turn]
    return tree


def paths_within(tree, path=()):
    """The path of each tree in it, also its own."""
    if tree is None:
        return []
    return [path] + [each for turn in (0, 1) for each in paths_within(tree[2 + turn], path + (turn,))]


def all_parts(tree, d, words=("in",)):
    """Each path and one that leads nowhere with each of the words, and out by each number and side."""
    paths = paths_within(tree) + [(0,) * 9]
    ways = [(word,) for word in words] + [("out", i, side) for i in range(d) for side in (0, 1)]
    return [(path,) + way for path in paths for way in ways]


def parted_further(dice, tree, parts, plain, often=0.5):
    """Parts of which some in, out or far are parted further, outs by any way that is so, in another order."""
    waiting, found = list(parts), []
    while waiting:
        part = waiting.pop()
        below = at_path(tree, part[0])
        if len(below[0]) > 1 and dice.random() < often:
            waiting += [(part[0] + (turn,),) + part[1:] for turn in (0, 1)]
        elif part[1] == "out":
            found.append(part[:2] + dice.choice(ways_out(below[1], plain)))
        else:
            found.append(part)
    dice.shuffle(found)
    return tuple(found)


def taken_plainly(tree, plain):
    """(taken, looks): a list of names (a tuple) of each that a plain box takes of a tree, as [13] tells it."""
    if tree is None:
        return [], 0
    names, bounds, low, high = tree
    if ways_out(bounds, plain):
        return [], 1
    if is_within(bounds, plain):
        return [names], 1
    one, one_looks = taken_plainly(low, plain)
    other, other_looks = taken_plainly(high, plain)
    return one + other, 1 + one_looks + other_looks


def key_plainly(house, tree, kind):
    """(far, name) as [16] tells it."""
    names, bounds, low, high = tree
    if kind[0] == "best":
        return (0 - max(worth for name, place, worth in house[1] if name in names), min(names))
    far = 0
    for number, (first, last) in zip(kind[1], bounds):
        nearest = first if number < first else last if number > last else number
        far += max(number, nearest) - min(number, nearest)
    return (far, min(names))


def drawn_plainly(house, tree, plain, kind, k, gone=()):
    """(told, looks, waiting, apart), (path, tree) of each, as [17] tells it; gone names are told, and don't count."""
    told, looks, waiting, apart, many = [], 0, [], [], 0
    coming = [((), tree)] if tree is not None and k > 0 else []
    while True:
        for path, each in coming:
            (apart if ways_out(each[1], plain) else waiting).append((path, each))
        waiting.sort(key=lambda pair: key_plainly(house, pair[1], kind))
        if not waiting or many == k:
            return told, looks, waiting, apart
        path, least = waiting.pop(0)
        looks += 1
        coming = [(path + (turn,), least[2 + turn]) for turn in (0, 1) if len(least[0]) > 1]
        if not coming:
            told.append((path, least))
            many += least[0][0] not in gone


def some_step(dice, d, far=9):
    """A step: a shift near or far, a mirror, a swap, also of a number with itself."""
    word = dice.choice(("shift", "mirror", "swap"))
    if word == "shift":
        reach = dice.choice((1, far, BIG))
        return (word, tuple(dice.choice((0, dice.randint(-reach, reach))) for i in range(d)))
    if word == "mirror":
        return (word, dice.randrange(d))
    return (word, dice.randrange(d), dice.randrange(d))


def some_move(dice, d, many, far=9):
    """A move of so many steps."""
    return tuple(some_step(dice, d, far) for each in range(many))
