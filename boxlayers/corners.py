"""Corner sums: what lies in a box, out of what lies below each of its corners."""

from boxlayers.boxes import plain_box
from boxlayers.searching import span_in


def unlike_numbers(things, i):
    """The rising tuple of the unlike numbers i of the things."""
    return tuple(sorted({place[i] for name, place, worth in things}))


def ranks_of(place, columns):
    """For each number of place, how many of the column's numbers are below it."""
    return tuple([column.index(number) for number, column in zip(place, columns)])


def are_below(ranks, others):
    """Whether each of the ranks is below the other one there."""
    return all([mine < yours for mine, yours in zip(ranks, others)])


def signed_corners(spans):
    """(ranks, sign) of each choice of begin or end for each span, sign -1 where begins are an odd number."""
    corners = [((), 1)]
    for begin, end, looks in spans:
        begins = [(ranks + (begin,), -sign) for ranks, sign in corners]
        ends = [(ranks + (end,), sign) for ranks, sign in corners]
        corners = begins + ends
    return corners


class Corners:
    """The corner sums of a house."""

    def __init__(self, house):
        d, things = house
        self.columns = tuple([unlike_numbers(things, i) for i in range(d)])
        self.ranked = tuple([(ranks_of(place, self.columns), worth) for name, place, worth in things])
        self.sums = {}

    def values(self, i):
        """The rising tuple of the unlike numbers i."""
        return self.columns[i]

    def corner(self, ranks):
        """(count, sum) of the things whose number i is one of the first ranks[i] values, for each i."""
        # There are far more corners than are asked for, so each is reckoned when it is first asked.
        if ranks not in self.sums:
            worths = [worth for thing_ranks, worth in self.ranked if are_below(thing_ranks, ranks)]
            self.sums[ranks] = (len(worths), sum(worths))
        return self.sums[ranks]

    def ask(self, box):
        """(count, sum, looks) of the things that fit the box."""
        spans = [span_in(column, pair) for column, pair in zip(self.columns, plain_box(box))]
        count = 0
        total = 0
        looks = sum([span_looks for begin, end, span_looks in spans])
        for ranks, sign in signed_corners(spans):
            corner_count, corner_total = self.corner(ranks)
            count += sign * corner_count
            total += sign * corner_total
            looks += 1
        return (count, total, looks)
