"""Which values, of all that there may be, have the form of a certificate's content.

The claim is valid. Whether the content proves it is not asked here.
"""

from paidahead.forms import MOST_LEFT, MOST_PAID, MOST_STOCK, are_corners, is_mix
from paidahead.histories import are_moves
from paidahead.houses import MOST_CONTENTS, is_content
from paidahead.rings import has_ring_form
from paidahead.tariffs import is_tariff
from paidahead.values import is_number, is_row

MOST_LOTS = 1000000000
MOST_TIMES = 1000000000
MOST_PARTS = 6


def is_paper(house, word, claim, value):
    """Tell whether word is one of the two, and value a content that stands behind it for this claim."""
    if word == "shown":
        has_form = SHOWN[claim[0]]
    elif word == "broken":
        has_form = BROKEN[claim[0]]
    else:
        return False
    return has_form(house, claim, value)


def _is_fair_shown(house, claim, value):
    return _are_stocks(house, value)


def _is_fair_broken(house, claim, value):
    return has_ring_form(house, value)


def _is_need_shown(house, claim, value):
    return is_row(value, 2, 2) and _are_stocks(house, value[0]) and are_moves(house, value[1])


def _is_need_broken(house, claim, value):
    if _says(value, "endless", 2):
        return has_ring_form(house, value[1])
    if _says(value, "less", 2):
        return _are_stocks(house, value[1])
    return _says(value, "more", 2) and are_moves(house, value[1])


def _is_worth_shown(house, claim, value):
    if not (is_row(value, 3, 3) and is_tariff(house, value[0])):
        return False
    return _are_stocks(house, value[1]) and _is_plan(house, value[2])


def _is_worth_broken(house, claim, value):
    if _says(value, "less", 3):
        return is_tariff(house, value[1]) and _are_stocks(house, value[2])
    return _says(value, "more", 2) and _is_plan(house, value[1])


def _is_front_shown(house, claim, value):
    return is_row(value, 4, 4) and _are_front_papers(house, claim[1], value)


def _is_front_broken(house, claim, value):
    if _says(value, "short", 3):
        return is_number(value[1], 0, len(claim[1]) - 1) and has_ring_form(house, value[2])
    if not (_says(value, "below", 4) and is_mix(house, value[1])):
        return False
    return is_tariff(house, value[2]) and _are_stocks(house, value[3])


def _is_most_shown(house, claim, value):
    return is_row(value, 2, 2) and are_moves(house, value[0]) and _is_most_table(house, claim[1], value[1])


def _is_most_broken(house, claim, value):
    if _says(value, "less", 2):
        return _is_most_table(house, claim[1], value[1])
    return _says(value, "more", 2) and are_moves(house, value[1])


def _is_within_shown(house, claim, value):
    return _is_common_table(house, claim[1], value)


def _is_within_broken(house, claim, value):
    if _says(value, "more", 2):
        return are_moves(house, value[1])
    return _says(value, "endless", 2) and has_ring_form(house, value[1])


def _is_wins_shown(house, claim, value):
    if not (is_row(value, 4, 4) and is_mix(house, value[0]) and is_tariff(house, value[1])):
        return False
    return _are_stocks(house, value[2]) and _is_plan(claim[1], value[3])


def _is_wins_broken(house, claim, value):
    if not (is_row(value, 6, 6) and are_corners(house, value[0])):
        return False
    many = len(value[0])
    return _are_front_papers(house, value[0], value[1:5]) and _are_stocks_of(claim[1], many, value[5])


SHOWN = {
    "fair": _is_fair_shown,
    "need": _is_need_shown,
    "worth": _is_worth_shown,
    "front": _is_front_shown,
    "most": _is_most_shown,
    "within": _is_within_shown,
    "wins": _is_wins_shown,
}
BROKEN = {
    "fair": _is_fair_broken,
    "need": _is_need_broken,
    "worth": _is_worth_broken,
    "front": _is_front_broken,
    "most": _is_most_broken,
    "within": _is_within_broken,
    "wins": _is_wins_broken,
}


def _says(value, word, size):
    """Tell whether value is a tuple of so many parts, the first of which is the word."""
    return is_row(value, size, size) and value[0] == word


def _are_stocks(house, value):
    return _is_table(value, (MOST_CONTENTS, 1, MOST_STOCK), lambda key: is_content(house[0], key[0]))


def _are_stocks_of(house, many, value):
    """Tell whether value is a tuple of so many stocks."""
    return is_row(value, many, many) and all([_are_stocks(house, part) for part in value])


def _is_most_table(house, limits, value):
    bounds = (MOST_CONTENTS * MOST_LEFT, 2, MOST_PAID)
    return _is_table(value, bounds, lambda key: is_content(house[0], key[0]) and _is_left(limits, key[1]))


def _is_left(limits, value):
    many = len(limits)
    return is_row(value, many, many) and all([is_number(part, 0, limit) for part, limit in zip(value, limits)])


def _is_common_table(house, other, value):
    bounds = (MOST_CONTENTS * MOST_CONTENTS, 2, MOST_PAID)
    return _is_table(value, bounds, lambda key: is_content(house[0], key[0]) and is_content(other[0], key[1]))


def _is_table(value, bounds, is_key):
    """Tell whether value is a tuple of entries, strictly ascending by their keys, with a number behind each key.

    The bounds are the most entries that there can be, how many parts a key has, and the greatest number.
    """
    most, size, high = bounds
    if not (is_row(value, 0, most) and all([is_row(entry, size + 1, size + 1) for entry in value])):
        return False
    if not all([is_key(entry) and is_number(entry[size], 0, high) for entry in value]):
        return False
    keys = [entry[:size] for entry in value]
    return all([key < after for key, after in zip(keys, keys[1:])])


def _is_plan(house, value):
    if not (is_row(value, 2, 2) and is_number(value[0], 1, MOST_LOTS) and is_row(value[1], 0, MOST_PARTS)):
        return False
    return all([_is_part(house, part) for part in value[1]])


def _is_part(house, value):
    return is_row(value, 3, 3) and is_number(value[0], 1, MOST_TIMES) and has_ring_form(house, value[1:])


def _are_front_papers(house, corners, value):
    """Tell whether value, which has four parts, has stocks for each corner, and rings where they are due."""
    stocks_of, first, edges, last = value
    many = len(corners)
    if not (_are_stocks_of(house, many, stocks_of) and is_row(edges, many - 1, many - 1)):
        return False
    if not (_is_end(house, corners[0][0][0], first) and _is_end(house, corners[-1][0][1], last)):
        return False
    return all([has_ring_form(house, ring) for ring in edges])


def _is_end(house, price, value):
    """Tell whether value is a ring, or None where the price of the corner at this end is 0."""
    return value is None if price == 0 else has_ring_form(house, value)
