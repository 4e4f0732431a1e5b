"""Moves: shifts, mirrors and exchanged numbers of places, houses and boxes."""

from boxlayers.boxes import is_place
from boxlayers.kinds import is_below, is_d


def is_step(thing, d):
    """Whether thing, which may be anything, is one step of a move."""
    if not (isinstance(thing, tuple) and len(thing) > 1 and isinstance(thing[0], str)):
        return False
    if thing[0] == "shift":
        return len(thing) == 2 and is_place(thing[1], d)
    if thing[0] == "mirror":
        return len(thing) == 2 and is_below(thing[1], d)
    return thing[0] == "swap" and len(thing) == 3 and is_below(thing[1], d) and is_below(thing[2], d)


def is_move(thing, d):
    """Whether thing, which may be anything, is a move of places with d numbers."""
    return is_d(d) and isinstance(thing, tuple) and all([is_step(step, d) for step in thing])


def put_at(row, i, part):
    """The row with part at i."""
    return row[:i] + (part,) + row[i + 1:]


def swapped(row, i, j):
    """The row with what stands at i and at j exchanged."""
    return put_at(put_at(row, i, row[j]), j, row[i])


def place_by(step, place):
    """The place moved by one step."""
    if step[0] == "shift":
        return tuple([number + more for number, more in zip(place, step[1])])
    if step[0] == "mirror":
        return put_at(place, step[1], -place[step[1]])
    return swapped(place, step[1], step[2])


def moved_place(move, place):
    """The place moved by each step in order."""
    for step in move:
        place = place_by(step, place)
    return place


def moved_house(move, house):
    """The house with each thing at its moved place."""
    d, things = house
    return (d, tuple([(name, moved_place(move, place), worth) for name, place, worth in things]))


def shifted_end(end, more):
    """The end with more added to its number."""
    return None if end is None else (end[0] + more, end[1])


def mirrored_end(end):
    """The end with its number times -1."""
    return None if end is None else (-end[0], end[1])


def box_by(step, box):
    """The box moved by one step."""
    if step[0] == "shift":
        return tuple([(shifted_end(low, more), shifted_end(high, more)) for (low, high), more in zip(box, step[1])])
    if step[0] == "mirror":
        low, high = box[step[1]]
        # What was the least number is the greatest one now.
        return put_at(box, step[1], (mirrored_end(high), mirrored_end(low)))
    return swapped(box, step[1], step[2])


def moved_box(move, box):
    """The box that just those places fit that are moved from places that fit box."""
    for step in move:
        box = box_by(step, box)
    return box


def undone(step):
    """The step that undoes this one."""
    if step[0] == "shift":
        return ("shift", tuple([-number for number in step[1]]))
    return step


def back(move):
    """The move that undoes this one, the last step first."""
    return tuple([undone(step) for step in move[::-1]])
