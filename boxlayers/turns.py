"""Trees by turns: each number in turn halves the things."""

from boxlayers.boxes import bounds
from boxlayers.houses import things_by_name
from boxlayers.kinds import is_same, is_tuple_of, is_whole
from boxlayers.orders import halved_up, names_in_order


def bounds_of(by_name, names):
    """The bounds of the places of the names."""
    return bounds([by_name[name][1] for name in names])


def tree_of(d, by_name, names, i):
    """The tree of the names, in whatever order they stand, it being the turn of number i."""
    rising = tuple(sorted(names))
    limits = bounds_of(by_name, names)
    if len(names) == 1:
        return (rising, limits, None, None)
    ordered = names_in_order(by_name, names, i)
    half = halved_up(len(names))
    turn = (i + 1) % d
    return (rising, limits, tree_of(d, by_name, ordered[:half], turn), tree_of(d, by_name, ordered[half:], turn))


def all_names(house):
    """The rising names of all things."""
    return tuple([name for name, place, worth in house[1]])


def turns(house):
    """The tree of all things halved by each number in turn; None of a house without things."""
    d, things = house
    if len(things) == 0:
        return None
    return tree_of(d, things_by_name(house), all_names(house), 0)


def names_told(tree):
    """The names, as keys, that tree, which may be anything, tells as its own where it is a tree."""
    if not (is_tuple_of(tree, 4) and isinstance(tree[0], tuple)):
        return {}
    return {name: True for name in tree[0] if is_whole(name)}


def halves_wanted(low, names):
    """The names that low and high have to have where low, which may be anything, tells which are its own."""
    if len(names) == 1:
        return ((), ())
    told = names_told(low)
    return (tuple([name for name in names if name in told]), tuple([name for name in names if name not in told]))


def is_turns(house, thing):
    """Whether thing, which may be anything, is a tree of all things, or None where there are none."""
    by_name = things_by_name(house)
    # A tree may be as deep as it has names, so what is yet to be seen is a list: (thing, names it has to have).
    waiting = [(thing, all_names(house))]
    while len(waiting) > 0:
        part, names = waiting.pop()
        if names == ():
            if part is not None:
                return False
            continue
        if not (is_tuple_of(part, 4) and is_same(part[0], names) and is_same(part[1], bounds_of(by_name, names))):
            return False
        halves = halves_wanted(part[2], names)
        if len(names) > 1 and () in halves:
            return False
        waiting.append((part[2], halves[0]))
        waiting.append((part[3], halves[1]))
    return True
