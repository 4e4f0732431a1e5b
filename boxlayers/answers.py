"""The answers of asks, told by going through all things."""

from boxlayers.asks import steps
from boxlayers.boxes import fits
from boxlayers.houses import things_by_name


def key_for(ask, thing):
    """What an ask for names puts a thing by; the least comes first."""
    name, place, worth = thing
    word = ask[0]
    if word == "least":
        return worth
    if word in ("most", "best"):
        return -worth
    if word == "near":
        return steps(place, ask[2])
    return place


def names_for(things, ask):
    """The names of the things as an ask for names puts them, those of like keys by rising names."""
    return [name for key, name in sorted([(key_for(ask, thing), thing[0]) for thing in things])]


def answer_of(things, ask):
    """The answer of ask, things being those that fit its box, in any order."""
    word = ask[0]
    if word == "count":
        return len(things)
    if word == "sum":
        return sum([worth for name, place, worth in things])
    names = names_for(things, ask)
    if word in ("least", "most"):
        return names[0] if len(names) > 0 else None
    if word == "all":
        return tuple(names)
    return tuple(names[:ask[-1]])


def answer(house, ask):
    """The answer of ask, of the things of house that fit its box."""
    return answer_of([thing for thing in house[1] if fits(ask[1], thing[1])], ask)


def answer_out_of(house, taken, ask):
    """The answer of ask, taken being rows of names in which those that fit its box stand once each."""
    by_name = things_by_name(house)
    return answer_of([by_name[name] for names in taken for name in names], ask)
