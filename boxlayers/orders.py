"""The orders of things by each of their numbers."""


def names_by(things, i):
    """The names of the things in the order by i."""
    return tuple([name for turned, name in sorted([(place[i:] + place[:i], name) for name, place, worth in things])])


def order_by(house, i):
    """The names of all things: by number i, then the next ones, round behind the last one, then by name."""
    return names_by(house[1], i)
