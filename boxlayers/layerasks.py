"""Boxes asked of layers, with looks counted."""

from boxlayers.answers import answer_out_of
from boxlayers.boxes import all_above, all_below, lies_in, plain_box
from boxlayers.houses import things_by_name
from boxlayers.orders import halved_up


def lot_of(ends, pair):
    """What becomes of things whose numbers go from end to end: "out" or "in" of the pair as a whole, else "cut"."""
    # Of the pair (1, 0) things on both sides are cut, which counts for looks, so that lie_apart won't do here.
    if all_below(ends, pair) or all_above(ends, pair):
        return "out"
    return "in" if lies_in(pair, ends[0]) and lies_in(pair, ends[1]) else "cut"


def ends_of(by_name, names, i):
    """The least and the greatest number i of the names, which stand in the order by i."""
    return (by_name[names[0]][1][i], by_name[names[-1]][1][i])


def taken_by_layers(house, tree, box):
    """(taken, looks): the names of each taken layer, as they are come to, and how many layers were looked at."""
    by_name = things_by_name(house)
    plain = plain_box(box)
    taken = []
    looks = 0
    # The last of the list is asked next.
    waiting = [] if tree is None else [(tree, 0)]
    while len(waiting) > 0:
        (names, low, high, inner), i = waiting.pop()
        looks += 1
        lot = lot_of(ends_of(by_name, names, i), plain[i])
        if lot == "cut":
            waiting.append((high, i))
            waiting.append((low, i))
        elif lot == "in" and inner is None:
            taken.append(names)
        elif lot == "in":
            waiting.append((inner, i + 1))
    return (tuple(taken), looks)


def by_layers(house, tree, ask):
    """(answer, looks) of an ask, which is none of near or best."""
    taken, looks = taken_by_layers(house, tree, ask[1])
    return (answer_out_of(house, taken, ask), looks)


def halvings(n):
    """n halved up once, twice, and on until it is 1, n being 1 or more."""
    halves = []
    while n > 1:
        n = halved_up(n)
        halves.append(n)
    return halves


def most_line_looks(n):
    """How many looks one number takes at most in a halved tree of n names, n being 1 or more."""
    many = len(halvings(n))
    return 1 if many == 0 else 4 * many - 1


def most_layer_looks(n, d):
    """How many looks a box takes at most in the halved layers of n things with d numbers."""
    if n == 0:
        return 0
    if d == 1:
        return most_line_looks(n)
    parted = 2 * sum([most_layer_looks(half, d - 1) for half in halvings(n)])
    return most_line_looks(n) + max(most_layer_looks(n, d - 1), parted)
