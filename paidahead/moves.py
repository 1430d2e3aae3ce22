"""What a move does in a content, and which moves are not barred there."""

from paidahead.values import is_number, is_row, replaced


def done(house, content, move):
    """Return (content, paid): where a move of the house leads, and what it pays; None if it is barred."""
    deed, way = move
    place = content
    paid = 0
    for step in house[2][deed][way]:
        after = _stepped(house[0], place, step)
        if after is None:
            return None
        place = after[0]
        paid += after[1]
    return place, paid


def moves(house, content):
    """Return the tuple of (move, content, paid), ascending by move, for the moves that are not barred."""
    found = []
    for deed, ways in enumerate(house[2]):
        for way in range(len(ways)):
            after = done(house, content, (deed, way))
            if after is not None:
                found.append(((deed, way), after[0], after[1]))
    return tuple(found)


def is_move(house, value):
    """Tell whether value, which may be any value, is a pair of a deed of the house and a way of it."""
    if not (is_row(value, 2, 2) and is_number(value[0], 0, len(house[2]) - 1)):
        return False
    return is_number(value[1], 0, len(house[2][value[0]]) - 1)


def _stepped(sizes, content, step):
    """Return (content, paid) of one step; None if it is barred."""
    word = step[0]
    if word == "pay":
        return content, step[1]
    cell, told = step[1], step[2]
    value = content[cell]
    if word == "toll":
        return content, told[value]
    if word == "set":
        return _given(sizes, content, cell, told)
    if word == "add":
        return _given(sizes, content, cell, value + told)
    if word == "take":
        return _given(sizes, content, cell, value - told)
    if word == "pour":
        return _given(sizes, replaced(content, cell, 0), told, content[told] + value)
    inside = told <= value <= step[3]
    if word == "only":
        return (content, 0) if inside else None
    return _stepped(sizes, content, step[4]) if inside else (content, 0)


def _given(sizes, content, cell, value):
    """Return (content, paid) of a step that gives a cell this value; None if the value leaves the size."""
    if 0 <= value < sizes[cell]:
        return replaced(content, cell, value), 0
    return None
