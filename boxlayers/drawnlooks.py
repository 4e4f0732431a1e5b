"""A look at papers of drawn names: whether what may be anything is one, told without any search."""

from boxlayers.boxes import plain_box
from boxlayers.coverlooks import are_parts, are_so, hold_each_once, trees_at
from boxlayers.drawing import key_by
from boxlayers.houses import things_by_name
from boxlayers.kinds import is_same, is_tuple_of


def trees_that_are(word, parts, trees):
    """Those of the trees whose part has the word."""
    return [below for part, below in zip(parts, trees) if part[1] == word]


def rising_keys(house, trees, kind):
    """The keys of the trees, rising; that of a tree of one name is the name's own."""
    by_name = things_by_name(house)
    return sorted([key_by(by_name, tree, kind) for tree in trees])


def are_enough(keys, far_keys, k):
    """Whether so many names are told as k asks for, keys being theirs, and all that is far comes behind them."""
    if len(far_keys) == 0:
        return len(keys) <= k
    return len(keys) == k and (k == 0 or keys[-1] < far_keys[0])


def shows_drawn(house, tree, box, kind, k, thing):
    """Whether thing, which may be anything, is a paper of the k names drawn, its parts in any order."""
    if not (is_tuple_of(thing, 2) and are_parts(thing[1], ("in", "out", "far"), house[0])):
        return False
    names, parts = thing
    trees = trees_at(tree, parts)
    if not (hold_each_once(trees, tree) and are_so(parts, trees, plain_box(box))):
        return False
    told = trees_that_are("in", parts, trees)
    if any([len(below[0]) > 1 for below in told]):
        return False
    keys = rising_keys(house, told, kind)
    if not is_same(names, tuple([name for far, name in keys])):
        return False
    return are_enough(keys, rising_keys(house, trees_that_are("far", parts, trees), kind), k)
