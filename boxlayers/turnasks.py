"""Boxes asked of trees by turns, with looks counted."""

from boxlayers.answers import answer_out_of
from boxlayers.boxes import lie_apart, lies_within, plain_box
from boxlayers.drawing import drawn
from boxlayers.orders import halved_up


def lot_of(limits, plain):
    """What becomes of a tree of these bounds: "out" or "in" of the plain box as a whole, else "cut"."""
    if lie_apart(limits, plain):
        return "out"
    return "in" if lies_within(limits, plain) else "cut"


def looked_at(tree, box):
    """(path, tree, lot) of each tree that a box makes one look at, in order; the path tells 0 for low, 1 for high."""
    plain = plain_box(box)
    seen = []
    # A tree may be as deep as it has names, so what is yet to be seen is a list, the last one next.
    waiting = [] if tree is None else [((), tree)]
    while len(waiting) > 0:
        path, part = waiting.pop()
        names, limits, low, high = part
        lot = lot_of(limits, plain)
        seen.append((path, part, lot))
        if lot == "cut":
            waiting.append((path + (1,), high))
            waiting.append((path + (0,), low))
    return seen


def taken_by_turns(house, tree, box):
    """(taken, looks): the names of each taken tree, as they are come to, and how many trees were looked at."""
    seen = looked_at(tree, box)
    return (tuple([part[0] for path, part, lot in seen if lot == "in"]), len(seen))


def kind_of(ask):
    """What is drawn for near or best."""
    return ("near", ask[2]) if ask[0] == "near" else ("best",)


def drawn_for(house, tree, ask):
    """(answer, looks) of near or best."""
    names, looks, waiting = drawn(house, tree, ask[1], kind_of(ask), ask[-1])
    return (names, looks)


def by_turns(house, tree, ask):
    """(answer, looks) of an ask."""
    if ask[0] in ("near", "best"):
        return drawn_for(house, tree, ask)
    taken, looks = taken_by_turns(house, tree, ask[1])
    return (answer_out_of(house, taken, ask), looks)


def cuts_from(n, d, i, turn):
    """How many trees of one of n names a side by i cuts at most, it being the turn of number turn."""
    if n <= 1:
        return 0
    half = halved_up(n)
    after = (turn + 1) % d
    # Where the turn is i, the numbers i of low are all at or below those of high, and only one of them is cut.
    rest = 0 if turn == i else cuts_from(n - half, d, i, after)
    return 1 + cuts_from(half, d, i, after) + rest


def cuts(n, d, i):
    """How many trees of the tree by turns of n things with d numbers a side of a box by i cuts at most."""
    return cuts_from(n, d, i, 0)


def most_turn_looks(n, d):
    """How many looks a box takes at most in the tree by turns of n things with d numbers."""
    if n == 0:
        return 0
    # A box has two sides by each number, and what is cut is followed by two trees.
    return min(2 * n - 1, 1 + 4 * sum([cuts(n, d, i) for i in range(d)]))
