"""Places, boxes, and plain boxes."""

from boxlayers.kinds import is_d, is_tuple_of, is_whole

EMPTY_PAIR = (1, 0)


def is_place(thing, d):
    """Whether thing, which may be anything, is a place of d numbers."""
    return is_d(d) and is_tuple_of(thing, d) and all([is_whole(number) for number in thing])


def is_end(thing):
    """Whether thing, which may be anything, is an end of a span."""
    if thing is None:
        return True
    return is_tuple_of(thing, 2) and is_whole(thing[0]) and isinstance(thing[1], bool)


def is_span(thing):
    """Whether thing, which may be anything, is a span."""
    return is_tuple_of(thing, 2) and is_end(thing[0]) and is_end(thing[1])


def is_box(thing, d):
    """Whether thing, which may be anything, is a box of d spans."""
    return is_d(d) and is_tuple_of(thing, d) and all([is_span(span) for span in thing])


def least_of(low):
    """The least number that a low end lets fit, None where there is none such."""
    if low is None:
        return None
    number, shut = low
    return number if shut else number + 1


def greatest_of(high):
    """The greatest number that a high end lets fit, None where there is none such."""
    if high is None:
        return None
    number, shut = high
    return number if shut else number - 1


def lies_in(pair, number):
    """Whether number is neither below the least nor above the greatest of pair."""
    least, greatest = pair
    return (least is None or least <= number) and (greatest is None or number <= greatest)


def all_below(ends, pair):
    """Whether all numbers from ends' least to its greatest are below the least of pair."""
    return pair[0] is not None and ends[1] < pair[0]


def all_above(ends, pair):
    """Whether all numbers from ends' least to its greatest are above the greatest of pair."""
    return pair[1] is not None and ends[0] > pair[1]


def pair_of(span):
    """The least and the greatest number that a span's ends let fit, crossed where none fits."""
    low, high = span
    return (least_of(low), greatest_of(high))


def fits(box, place):
    """Whether each number of place fits the span of box there."""
    return all([lies_in(pair_of(span), number) for span, number in zip(box, place)])


def is_crossed(pair):
    """Whether no number lies in pair."""
    least, greatest = pair
    return least is not None and greatest is not None and least > greatest


def settled(pairs):
    """The plain box of pairs: where one is crossed no place fits, so that all of them are empty."""
    if any([is_crossed(pair) for pair in pairs]):
        return tuple([EMPTY_PAIR for pair in pairs])
    return tuple(pairs)


def plain_box(box):
    """The plain box of box."""
    return settled([pair_of(span) for span in box])


def is_pair(thing):
    """Whether thing, which may be anything, is a tuple of two, each a whole number or None."""
    return is_tuple_of(thing, 2) and all([number is None or is_whole(number) for number in thing])


def is_plain(thing, d):
    """Whether thing, which may be anything, is a plain box of d pairs."""
    if not (is_d(d) and is_tuple_of(thing, d)):
        return False
    # Kinds come first: (True, False) is equal to (1, 0), and is no pair.
    if not all([is_pair(pair) for pair in thing]):
        return False
    return settled(thing) == thing


def end_of(number):
    """The shut end at number, no end for None."""
    return None if number is None else (number, True)


def box_of(plain):
    """The box with shut ends of which plain is the plain one."""
    return tuple([(end_of(least), end_of(greatest)) for least, greatest in plain])


def greater_of(one, other):
    """The greater one of two leasts, None being below all."""
    if one is None or other is None:
        return other if one is None else one
    return max(one, other)


def lesser_of(one, other):
    """The lesser one of two greatests, None being above all."""
    if one is None or other is None:
        return other if one is None else one
    return min(one, other)


def common_pair(one, other):
    """The pair of the numbers that lie in both pairs, crossed where none does."""
    return (greater_of(one[0], other[0]), lesser_of(one[1], other[1]))


def common(one, other):
    """The plain box of the places that fit both plain boxes."""
    # The pair (1, 0) is crossed with any other one, so the empty one needs no care of its own.
    return settled([common_pair(mine, yours) for mine, yours in zip(one, other)])


def lies_within(one, other):
    """Whether each place of the plain box one fits the plain box other."""
    # No two plain boxes have the same places, so equal ones are those of the same places.
    return common(one, other) == one


def lie_apart(one, other):
    """Whether no place fits both plain boxes."""
    return is_crossed(common(one, other)[0])


def bounds(places):
    """The plain box of the least and the greatest of each number of one place or more."""
    columns = [[place[i] for place in places] for i in range(len(places[0]))]
    return tuple([(min(column), max(column)) for column in columns])
