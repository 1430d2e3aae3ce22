"""What a house is, and which contents it has."""

from paidahead.errors import InvalidHouse
from paidahead.values import is_number, is_row, rows_below

MOST_CELLS = 3
LEAST_SIZE = 2
MOST_SIZE = 8
MOST_CONTENTS = 24
MOST_DEEDS = 3
MOST_WAYS = 3
MOST_STEPS = 6
MOST_PAYMENT = 99
MOST_WHENS = 2


def require_house(value):
    """Return value, which may be any value, or raise InvalidHouse if it is no house."""
    if not (is_row(value, 3, 3) and is_row(value[2], 1, MOST_DEEDS)):
        raise InvalidHouse(None)
    sizes, begin, deeds = value
    if not are_sizes(sizes):
        raise InvalidHouse(("sizes",))
    if not is_content(sizes, begin):
        raise InvalidHouse(("begin",))
    for number, deed in enumerate(deeds):
        if not is_deed(sizes, deed):
            raise InvalidHouse(("deed", number))
    return value


def is_house(value):
    """Tell whether value, which may be any value, is a house."""
    try:
        require_house(value)
    except InvalidHouse:
        return False
    return True


def contents(house):
    """Return the ascending tuple of all contents of a house."""
    return rows_below(house[0])


def is_content(sizes, value):
    """Tell whether value, which may be any value, is a content of cells of these sizes."""
    if not is_row(value, len(sizes), len(sizes)):
        return False
    return all([is_number(part, 0, size - 1) for part, size in zip(value, sizes)])


def is_deed(sizes, value):
    """Tell whether value, which may be any value, is a deed for cells of these sizes."""
    return is_row(value, 1, MOST_WAYS) and all([_is_way(sizes, way) for way in value])


def are_sizes(value):
    """Tell whether value, which may be any value, is a tuple of the sizes of a house's cells."""
    if not is_row(value, 1, MOST_CELLS):
        return False
    many = 1
    for size in value:
        if not is_number(size, LEAST_SIZE, MOST_SIZE):
            return False
        many = many * size
    return many <= MOST_CONTENTS


def _is_way(sizes, value):
    return is_row(value, 0, MOST_STEPS) and all([is_step(sizes, step) for step in value])


def is_step(sizes, value):
    """Tell whether value, which may be any value, is a step of cells of these sizes."""
    return _is_plain(sizes, value) or _is_only(sizes, value) or _is_when(sizes, value, MOST_WHENS)


def _is_plain(sizes, value):
    """Tell whether value is a step that is neither an only nor a when."""
    if not is_row(value, 2, 3):
        return False
    if value[0] == "pay":
        return len(value) == 2 and is_number(value[1], 1, MOST_PAYMENT)
    return len(value) == 3 and _is_cell(sizes, value[1]) and _is_cell_step(sizes, value)


def _is_cell_step(sizes, value):
    """Tell whether the word fits what stands behind the cell; the cell is known to be one."""
    word, cell, told = value
    size = sizes[cell]
    if word == "toll":
        return is_row(told, size, size) and all([is_number(part, 0, MOST_PAYMENT) for part in told])
    if word == "set":
        return is_number(told, 0, size - 1)
    if word == "add" or word == "take":
        return is_number(told, 1, size - 1)
    return word == "pour" and _is_cell(sizes, told) and told != cell


def _is_only(sizes, value):
    return is_row(value, 4, 4) and value[0] == "only" and _has_span(sizes, value)


def _is_when(sizes, value, whens):
    """Tell whether value is a when, of at most so many whens within one another."""
    if not (is_row(value, 5, 5) and value[0] == "when" and _has_span(sizes, value)):
        return False
    return _is_plain(sizes, value[4]) or (whens > 1 and _is_when(sizes, value[4], whens - 1))


def _has_span(sizes, value):
    """Tell whether a cell, and two values of it from low to high, stand behind the word."""
    cell, low, high = value[1:4]
    if not _is_cell(sizes, cell):
        return False
    return is_number(high, 0, sizes[cell] - 1) and is_number(low, 0, high)


def _is_cell(sizes, value):
    return is_number(value, 0, len(sizes) - 1)
