"""Rows with marks: rows by number 1, halved by number 0, with marks of where the halves' names stand."""

from boxlayers.houses import things_by_name
from boxlayers.kinds import is_same
from boxlayers.orders import halved_up, names_in_order, order_by


def sums_of(numbers):
    """The tuple of the first 0, 1, .. of the numbers together."""
    sums = [0]
    for number in numbers:
        sums.append(sums[-1] + number)
    return tuple(sums)


def marked_row(by_name, names):
    """The marked row of the names, which stand in the order by 0."""
    row = names_in_order(by_name, names, 1)
    ends = (by_name[names[0]][1][0], by_name[names[-1]][1][0])
    sums = sums_of([by_name[name][2] for name in row])
    if len(names) == 1:
        return (row, ends, (), sums, None, None)
    half = halved_up(len(names))
    in_low = {name: True for name in names[:half]}
    marks = sums_of([1 if name in in_low else 0 for name in row])
    return (row, ends, marks, sums, marked_row(by_name, names[:half]), marked_row(by_name, names[half:]))


def marked(house):
    """The marked row of all things of a house with two numbers; None of a house without things."""
    if len(house[1]) == 0:
        return None
    return marked_row(things_by_name(house), order_by(house, 0))


def is_marked(house, thing):
    """Whether thing, which may be anything, is the marked row of all things, or None where there are none."""
    # Of some things there is just one marked row.
    return is_same(thing, marked(house))
