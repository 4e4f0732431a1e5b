"""Layers: trees by one number, with trees by the next number within."""

from boxlayers.houses import things_by_name
from boxlayers.kinds import is_same, is_tuple_of
from boxlayers.orders import halved_up, names_in_order, order_by


def layer_of(d, by_name, names, i):
    """The layer of i of the names, which stand in the order by i, all of it halved."""
    inner = None if i + 1 == d else layer_of(d, by_name, names_in_order(by_name, names, i + 1), i + 1)
    if len(names) == 1:
        return (names, None, None, inner)
    half = halved_up(len(names))
    return (names, layer_of(d, by_name, names[:half], i), layer_of(d, by_name, names[half:], i), inner)


def layers(house):
    """The layer of 0 of all things in which each low has half of the names; None of a house without things."""
    d, things = house
    if len(things) == 0:
        return None
    return layer_of(d, things_by_name(house), order_by(house, 0), 0)


def halves_wanted(low, names):
    """The names that low and high have to have where low, which may be anything, tells how many are its own."""
    if len(names) == 1:
        return ((), ())
    many = len(low[0]) if is_tuple_of(low, 4) and isinstance(low[0], tuple) else 0
    return (names[:many], names[many:])


def inner_wanted(d, by_name, names, i):
    """The names that the inner layer of a layer of i has to have, none where there is no next number."""
    return () if i + 1 == d else names_in_order(by_name, names, i + 1)


def is_layers(house, thing):
    """Whether thing, which may be anything, is a layer of 0 of all things, or None where there are none."""
    d = house[0]
    by_name = things_by_name(house)
    # A layer may be as deep as it has names, so what is yet to be seen is a list: (thing, names it has to have, i).
    waiting = [(thing, order_by(house, 0), 0)]
    while len(waiting) > 0:
        part, names, i = waiting.pop()
        if names == ():
            if part is not None:
                return False
            continue
        if not (is_tuple_of(part, 4) and is_same(part[0], names)):
            return False
        halves = halves_wanted(part[1], names)
        if len(names) > 1 and () in halves:
            return False
        waiting.append((part[1], halves[0], i))
        waiting.append((part[2], halves[1], i))
        waiting.append((part[3], inner_wanted(d, by_name, names, i), i + 1))
    return True
