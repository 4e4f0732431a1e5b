"""Things and the houses that hold them."""

from boxlayers.boxes import fits, is_place
from boxlayers.errors import NoThing
from boxlayers.kinds import is_d, is_from_zero, is_tuple_of, is_whole


def is_thing(thing, d):
    """Whether thing, which may be anything, is (name, place, worth) with a place of d numbers."""
    return is_tuple_of(thing, 3) and is_from_zero(thing[0]) and is_place(thing[1], d) and is_whole(thing[2])


def rises(numbers):
    """Whether each of a list of numbers is above the one ahead of it."""
    return all([one < other for one, other in zip(numbers, numbers[1:])])


def is_house(thing):
    """Whether thing, which may be anything, is a house."""
    if not is_tuple_of(thing, 2):
        return False
    d, things = thing
    if not (is_d(d) and isinstance(things, tuple)):
        return False
    if not all([is_thing(each, d) for each in things]):
        return False
    return rises([name for name, place, worth in things])


def thing_of(house, name):
    """The thing of this name, refused with NoThing where there is none."""
    for thing in house[1]:
        if thing[0] == name:
            return thing
    raise NoThing("no thing has this name")


def fitting(house, box):
    """The rising names of the things whose places fit the box."""
    return tuple([name for name, place, worth in house[1] if fits(box, place)])


def things_by_name(house):
    """The things of house, each under its name."""
    return {thing[0]: thing for thing in house[1]}
