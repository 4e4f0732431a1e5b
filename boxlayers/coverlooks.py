"""A look at covers: whether what may be anything is one, told without any search."""

from boxlayers.boxes import lies_within, plain_box
from boxlayers.covers import is_out, tree_at
from boxlayers.kinds import is_below

# How many things a part of each word has.
LENGTHS = {"in": 2, "far": 2, "out": 4}


def is_path(thing):
    """Whether thing, which may be anything, is a tuple of 0 and 1."""
    return isinstance(thing, tuple) and all([is_below(turn, 2) for turn in thing])


def is_part(thing, words, d):
    """Whether thing, which may be anything, is of the form that parts with one of the words have."""
    if not (isinstance(thing, tuple) and len(thing) > 1 and is_path(thing[0]) and isinstance(thing[1], str)):
        return False
    word = thing[1]
    if not (word in words and len(thing) == LENGTHS[word]):
        return False
    return word != "out" or (is_below(thing[2], d) and is_below(thing[3], 2))


def are_parts(thing, words, d):
    """Whether thing, which may be anything, is a tuple of such parts."""
    return isinstance(thing, tuple) and all([is_part(part, words, d) for part in thing])


def trees_at(tree, parts):
    """The tree at the path of each part, None where it leads nowhere."""
    return [tree_at(tree, part[0]) for part in parts]


def hold_each_once(trees, tree):
    """Whether the trees, of which some may be None, have each name of tree once."""
    if any([part is None for part in trees]):
        return False
    names = () if tree is None else tree[0]
    return sorted([name for part in trees for name in part[0]]) == list(names)


def is_so(part, limits, plain):
    """Whether what is in or out by the part is so, of a tree of these bounds."""
    if part[1] == "in":
        return lies_within(limits, plain)
    if part[1] == "out":
        path, word, i, side = part
        return is_out(limits[i], plain[i], side)
    return True


def are_so(parts, trees, plain):
    """Whether what is in or out by each part is so of the tree there."""
    return all([is_so(part, below[1], plain) for part, below in zip(parts, trees)])


def shows_cover(house, tree, box, thing):
    """Whether thing, which may be anything, is a cover of tree for box, its parts in any order."""
    if not are_parts(thing, ("in", "out"), house[0]):
        return False
    trees = trees_at(tree, thing)
    return hold_each_once(trees, tree) and are_so(thing, trees, plain_box(box))
