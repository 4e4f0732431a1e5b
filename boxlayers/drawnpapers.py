"""Papers of drawn names: what was told, what waits, and what lay apart."""

from boxlayers.boxes import lie_apart, plain_box
from boxlayers.covers import out_part
from boxlayers.drawing import drawn


def far_rows(tree, waiting, k):
    """The names, as keys, of each tree that is far, unless it is out: of k 0 the top, though nothing waits then."""
    return {row: True for row in ([tree[0]] if k == 0 else waiting)}


def parts_of(tree, plain, far):
    """The parts of tree, left to right; a tree that is neither out nor far was looked at."""
    parts = []
    # A tree may be as deep as it has names, so what is yet to be seen is a list, the last one next.
    waiting = [((), tree)]
    while len(waiting) > 0:
        path, (names, limits, low, high) = waiting.pop()
        if lie_apart(limits, plain):
            parts.append(out_part(path, limits, plain))
        elif names in far:
            parts.append((path, "far"))
        elif len(names) == 1:
            parts.append((path, "in"))
        else:
            waiting.append((path + (1,), high))
            waiting.append((path + (0,), low))
    return tuple(parts)


def drawn_paper(house, tree, box, kind, k):
    """(names, parts): the names that are drawn, and what shows that they are those."""
    if tree is None:
        return ((), ())
    names, looks, waiting = drawn(house, tree, box, kind, k)
    return (names, parts_of(tree, plain_box(box), far_rows(tree, waiting, k)))
