"""Asks, and the steps between places."""

from boxlayers.boxes import is_box, is_place
from boxlayers.kinds import is_below, is_from_zero

BOX_WORDS = ("count", "sum", "least", "most", "all", "first", "best", "near")
# What stands behind the word of each ask; number and worth are asked in rows of asks alone.
PARTS = {
    "count": ("box",),
    "sum": ("box",),
    "least": ("box",),
    "most": ("box",),
    "all": ("box",),
    "first": ("box", "k"),
    "best": ("box", "k"),
    "near": ("box", "place", "k"),
    "number": ("name", "i"),
    "worth": ("name",),
}


def has_form(thing, words):
    """Whether thing, which may be anything, is a tuple of one of the words and as many parts as stand behind it."""
    if not (isinstance(thing, tuple) and len(thing) > 0 and isinstance(thing[0], str) and thing[0] in words):
        return False
    return len(thing) == len(PARTS[thing[0]]) + 1


def is_part(thing, kind, d):
    """Whether thing, which may be anything, is a part of an ask of that kind."""
    if kind == "box":
        return is_box(thing, d)
    if kind == "place":
        return is_place(thing, d)
    if kind == "i":
        return is_below(thing, d)
    return is_from_zero(thing)


def has_parts(ask, d):
    """Whether the parts behind the word, of what has the form of an ask, are of their kinds."""
    return all([is_part(part, kind, d) for part, kind in zip(ask[1:], PARTS[ask[0]])])


def is_ask(thing, d):
    """Whether thing, which may be anything, is an ask of houses with d numbers."""
    return has_form(thing, BOX_WORDS) and has_parts(thing, d)


def steps(one, other):
    """The steps from one place to the other: how far their numbers differ, all together."""
    return sum([abs(mine - yours) for mine, yours in zip(one, other)])
