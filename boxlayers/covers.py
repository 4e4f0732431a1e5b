"""Covers: what of a tree a box takes, and what it leaves out by which number."""

from boxlayers.answers import answer_out_of
from boxlayers.boxes import EMPTY_PAIR, all_above, all_below, plain_box
from boxlayers.turnasks import looked_at


def is_out(ends, pair, side):
    """Whether all numbers from end to end are below the pair (side 0), above it (side 1)."""
    # Nothing fits the empty box, so that everything is out of it by any number and side.
    if pair == EMPTY_PAIR:
        return True
    return all_below(ends, pair) if side == 0 else all_above(ends, pair)


def ways_out(limits, plain):
    """(i, side) of each number and side by which the bounds are out of the plain box."""
    return [(i, side) for i in range(len(plain)) for side in (0, 1) if is_out(limits[i], plain[i], side)]


def out_part(path, limits, plain):
    """The part that leaves out what is at path, its bounds being out of the plain box."""
    return (path, "out") + ways_out(limits, plain)[0]


def cover(house, tree, box):
    """The parts of tree that box takes or leaves out, left to right."""
    plain = plain_box(box)
    parts = []
    for path, part, lot in looked_at(tree, box):
        if lot == "in":
            parts.append((path, "in"))
        elif lot == "out":
            parts.append(out_part(path, part[1], plain))
    return tuple(parts)


def tree_at(tree, path):
    """The tree at path, None where it leads nowhere."""
    for turn in path:
        if tree is None:
            return None
        names, limits, low, high = tree
        tree = low if turn == 0 else high
    return tree


def by_cover(house, tree, box, cover, ask):
    """The answer of an ask, which is none of near or best, out of the parts of a cover that are in."""
    taken = [tree_at(tree, part[0])[0] for part in cover if part[1] == "in"]
    return answer_out_of(house, taken, ask)
