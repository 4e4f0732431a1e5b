"""The orders of things by each of their numbers, and how they are halved."""


def names_by(things, i):
    """The names of the things in the order by i."""
    return tuple([name for turned, name in sorted([(place[i:] + place[:i], name) for name, place, worth in things])])


def order_by(house, i):
    """The names of all things: by number i, then the next ones, round behind the last one, then by name."""
    return names_by(house[1], i)


def names_in_order(by_name, names, i):
    """The names in the order by i, by_name having the thing of each."""
    return names_by([by_name[name] for name in names], i)


def halved_up(count):
    """Half of count, rounded up."""
    return (count + 1) // 2
