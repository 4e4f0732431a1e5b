"""Boxes, asks and houses written as texts."""


def show_number(number):
    """The number by figures."""
    # Python's own way refuses numbers of some thousand figures, so that they are written by eighteen at a time.
    at_once = 10 ** 18
    rest = abs(number)
    rows = []
    while rest >= at_once:
        rest, row = divmod(rest, at_once)
        rows.append(str(row).zfill(18))
    rows.append(str(rest))
    return ("-" if number < 0 else "") + "".join(rows[::-1])


def show_low(end):
    """A low end."""
    return "-" if end is None else ("[" if end[1] else "(") + show_number(end[0])


def show_high(end):
    """A high end."""
    return "-" if end is None else show_number(end[0]) + ("]" if end[1] else ")")


def show_box(box):
    """A box: its spans."""
    return " ".join([show_low(low) + ".." + show_high(high) for low, high in box])


def show_place(place):
    """A place: its numbers."""
    return ",".join([show_number(number) for number in place])


def show_ask(ask):
    """An ask: its word, place and k where it has them, and the box at the end."""
    shown = [show_place(part) if isinstance(part, tuple) else show_number(part) for part in ask[2:]]
    return " ".join([ask[0]] + shown + [show_box(ask[1])])


def show_thing(thing):
    """A thing: its name, place and worth."""
    name, place, worth = thing
    return " ".join([show_number(name), show_place(place), show_number(worth)])


def show_house(house):
    """A house: how many numbers its places have, and a row for each thing."""
    d, things = house
    return "\n".join(["house " + show_number(d)] + [show_thing(thing) for thing in things])
