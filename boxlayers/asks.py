"""Asks, and the steps between places."""

from boxlayers.boxes import is_box, is_place
from boxlayers.kinds import is_from_zero

# What stands behind the word of each ask; k is a whole number from 0.
PARTS = {
    "count": ("box",),
    "sum": ("box",),
    "least": ("box",),
    "most": ("box",),
    "all": ("box",),
    "first": ("box", "k"),
    "best": ("box", "k"),
    "near": ("box", "place", "k"),
}


def is_word(thing):
    """Whether thing, which may be anything, is the word of an ask."""
    # What is no text may be no key of a dict either.
    return isinstance(thing, str) and thing in PARTS


def is_part(thing, kind, d):
    """Whether thing, which may be anything, is a part of an ask of that kind."""
    if kind == "box":
        return is_box(thing, d)
    if kind == "place":
        return is_place(thing, d)
    return is_from_zero(thing)


def is_ask(thing, d):
    """Whether thing, which may be anything, is an ask of houses with d numbers."""
    if not (isinstance(thing, tuple) and len(thing) > 0 and is_word(thing[0])):
        return False
    wanted = PARTS[thing[0]]
    if len(thing) != len(wanted) + 1:
        return False
    return all([is_part(part, kind, d) for part, kind in zip(thing[1:], wanted)])


def steps(one, other):
    """The steps from one place to the other: how far their numbers differ, all together."""
    return sum([abs(mine - yours) for mine, yours in zip(one, other)])
