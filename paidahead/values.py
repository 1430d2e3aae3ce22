"""Questions that may be asked of any value, and what is done with tuples of numbers."""


def is_number(value, low, high):
    """Tell whether value is an integer from low to high."""
    return isinstance(value, int) and not isinstance(value, bool) and low <= value <= high


def is_row(value, low, high):
    """Tell whether value is a tuple of low to high parts."""
    return isinstance(value, tuple) and low <= len(value) <= high


def rows_below(sizes):
    """Return the ascending tuple of all tuples that have for each size a number from 0 to one below it."""
    found = [()]
    for size in sizes:
        found = [row + (number,) for row in found for number in range(size)]
    return tuple(found)


def replaced(row, at, value):
    """Return the tuple with this value at an index."""
    return row[:at] + (value,) + row[at + 1:]
