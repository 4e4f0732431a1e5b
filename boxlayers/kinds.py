"""What the looks at anything have in common: kinds of numbers and tuples, and likeness, kinds and all."""

MOST_NUMBERS = 4


def is_whole(thing):
    """Whether thing is a whole number; to Python a truth is an int, too, here it is none."""
    return isinstance(thing, int) and not isinstance(thing, bool)


def is_from_zero(thing):
    """Whether thing is a whole number, and not below 0."""
    return is_whole(thing) and thing >= 0


def is_below(thing, limit):
    """Whether thing is a whole number from 0 on, and below limit."""
    return is_from_zero(thing) and thing < limit


def is_d(thing):
    """Whether thing is a d: how many numbers a place may have."""
    return is_whole(thing) and 1 <= thing <= MOST_NUMBERS


def is_tuple_of(thing, length):
    """Whether thing is a tuple of so many parts."""
    return isinstance(thing, tuple) and len(thing) == length


def is_same(thing, told):
    """Whether thing, which may be anything, is told, which is of tuples, whole numbers and None, kinds and all."""
    if isinstance(told, tuple):
        return is_tuple_of(thing, len(told)) and all([is_same(part, wanted) for part, wanted in zip(thing, told)])
    if told is None:
        return thing is None
    # To Python a truth may be equal to a number, so that kinds come first.
    return is_whole(thing) and thing == told
