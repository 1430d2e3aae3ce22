"""Questions that may be asked of any value."""


def is_number(value, low, high):
    """Tell whether value is an integer from low to high."""
    return isinstance(value, int) and not isinstance(value, bool) and low <= value <= high


def is_row(value, low, high):
    """Tell whether value is a tuple of low to high parts."""
    return isinstance(value, tuple) and low <= len(value) <= high
