"""Searching in rising rows of numbers, with looks counted."""


def search(row, number):
    """(position, looks): where the first one stands in row that isn't less than number, and the looks it took."""
    low = 0
    high = len(row)
    looks = 0
    while low < high:
        middle = (low + high) // 2
        looks += 1
        if row[middle] < number:
            low = middle + 1
        else:
            high = middle
    return (low, looks)


def span_in(row, pair):
    """(begin, end, looks): where those stand in row that lie in the pair of a plain box, end being behind them."""
    least, greatest = pair
    begin, begin_looks = (0, 0) if least is None else search(row, least)
    end, end_looks = (len(row), 0) if greatest is None else search(row, greatest + 1)
    return (begin, end, begin_looks + end_looks)
