"""What the looks at anything have in common: kinds of numbers and tuples."""

MOST_NUMBERS = 4


def is_whole(thing):
    """Whether thing is a whole number; to Python a truth is an int, too, here it is none."""
    return isinstance(thing, int) and not isinstance(thing, bool)


def is_from_zero(thing):
    """Whether thing is a whole number, and not below 0."""
    return is_whole(thing) and thing >= 0


def is_d(thing):
    """Whether thing is a d: how many numbers a place may have."""
    return is_whole(thing) and 1 <= thing <= MOST_NUMBERS


def is_tuple_of(thing, length):
    """Whether thing is a tuple of so many parts."""
    return isinstance(thing, tuple) and len(thing) == length
