"""Boxes asked of rows with marks, with looks counted."""

from boxlayers.boxes import plain_box
from boxlayers.houses import things_by_name
from boxlayers.layerasks import lot_of, most_line_looks
from boxlayers.searching import span_in


def halves_between(tree, begin, end):
    """Low and high of a marked row, each with where in it those stand that stand from begin to end in the row."""
    row, ends, marks, sums, low, high = tree
    low_begin = marks[begin]
    low_end = marks[end]
    return ((low, low_begin, low_end), (high, begin - low_begin, end - low_end))


def whole_between(house, tree, pair):
    """((tree, begin, end), looks): where those stand in the whole row whose numbers 1 lie in the pair."""
    by_name = things_by_name(house)
    begin, end, looks = span_in([by_name[name][1][1] for name in tree[0]], pair)
    return ((tree, begin, end), looks)


def taken_rows(house, tree, box):
    """(taken, looks): (marked row, begin, end) of each taken one, in the order by 0, and all looks."""
    if tree is None:
        return ([], 0)
    across, along = plain_box(box)
    whole, looks = whole_between(house, tree, along)
    taken = []
    # The last of the list is asked next.
    waiting = [whole]
    while len(waiting) > 0:
        part, begin, end = waiting.pop()
        if begin == end:
            continue
        looks += 1
        lot = lot_of(part[1], across)
        if lot == "in":
            taken.append((part, begin, end))
        elif lot == "cut":
            low, high = halves_between(part, begin, end)
            waiting.append(high)
            waiting.append(low)
    return (taken, looks)


def taken_by_marks(house, tree, box):
    """(taken, looks): (row, begin, end) of each taken marked row, as they are come to, and all looks."""
    taken, looks = taken_rows(house, tree, box)
    return (tuple([(part[0], begin, end) for part, begin, end in taken]), looks)


def by_marks(house, tree, box):
    """(count, sum, looks) of the things that fit the box."""
    taken, looks = taken_rows(house, tree, box)
    count = sum([end - begin for part, begin, end in taken])
    worth = sum([part[3][end] - part[3][begin] for part, begin, end in taken])
    return (count, worth, looks)


def kth_between(tree, begin, end, k):
    """(name, looks): the k-th in the order by 0 of those from begin to end in the row, which are more than k."""
    looks = 1
    while len(tree[0]) > 1:
        low, high = halves_between(tree, begin, end)
        many = low[2] - low[1]
        if many > k:
            tree, begin, end = low
        else:
            tree, begin, end = high
            k -= many
        looks += 1
    return (tree[0][0], looks)


def kth_by_marks(house, tree, box, k):
    """(name, looks): the k-th, from 0, in the order by 0 of those that fit the box, None where there are fewer."""
    taken, looks = taken_rows(house, tree, box)
    for part, begin, end in taken:
        if k < end - begin:
            name, more = kth_between(part, begin, end, k)
            return (name, looks + more)
        k -= end - begin
    return (None, looks)


def most_mark_looks(n):
    """How many looks a box takes at most in the marked row of n things."""
    if n == 0:
        return 0
    # A search goes on in at most n // 2 of n, so that it has looked most when that has come down to nothing.
    return 2 * n.bit_length() + most_line_looks(n)
