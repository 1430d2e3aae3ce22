"""What is wrong with the parts of a certificate whose form is right."""

from paidahead.commons import both_begins, common_lines
from paidahead.forms import MOST_STOCK
from paidahead.houses import contents
from paidahead.moves import moves
from paidahead.mosts import one_less


def unless(holds, word):
    """Return None if something holds, else the fault of this one word."""
    return None if holds else (word,)


def under(words, fault):
    """Return None if there is no fault, else the fault with these words before it."""
    return None if fault is None else words + (fault,)


def stocks_fault(house, tariff, stocks, low=0, high=MOST_STOCK):
    """Return the first fault of stocks; begin's is to be from low to high."""
    prices, q = tariff
    costs = {}
    for content, _ in stocks:
        costs[content] = [(move, after, q * paid - prices[move[0]]) for move, after, paid in moves(house, content)]
    return _table_fault(stocks, costs, house[1], (low, high))


def most_table_fault(house, limits, table, low, high):
    """Return the first fault of a table for the most; the number at the beginning is to be from low to high."""
    graph = _whole_graph(house)
    costs = {}
    for content, left, _ in table:
        costs[content, left] = [
            (move, (after, one_less(left, move[0])), paid) for move, after, paid in graph[content] if left[move[0]] > 0
        ]
    return _table_fault(_by_pairs(table), costs, (house[1], limits), (low, high))


def common_table_fault(house, other, table, high):
    """Return the first fault of a table for two houses; the number at the beginning is to be at most high."""
    mine, theirs = _whole_graph(house), _whole_graph(other)
    costs = {(content, beside): common_lines(mine[content], theirs[beside]) for content, beside, _ in table}
    return _table_fault(_by_pairs(table), costs, both_begins(house, other), (0, high))


def steps_of(graph):
    """Return a dict: for each place a dict of (next place, payment) by move."""
    return {place: {move: (after, paid) for move, after, paid in lines} for place, lines in graph.items()}


def history_fault(steps, start, history):
    """Return (fault, paid) of a history."""
    barred, _, paid = _gone(steps, start, history)
    fault = None if barred is None else ("history", barred)
    return fault, paid


def ring_fault(steps, start, ring):
    """Return (fault, paid) of a ring."""
    road, turn = ring
    barred, place, _ = _gone(steps, start, road)
    if barred is not None:
        return ("road", barred), 0
    barred, back, paid = _gone(steps, place, turn)
    if barred is not None:
        return ("turn", barred), 0
    return unless(back == place, "open"), paid


def counts_of(many, history):
    """Return for each of so many deeds how many moves of it the history has."""
    counts = [0] * many
    for deed, _ in history:
        counts[deed] += 1
    return tuple(counts)


def _gone(steps, start, history):
    """Return the index of the first move that is barred, or None; where those before it lead, and what they pay."""
    place = start
    total = 0
    for at, move in enumerate(history):
        if move not in steps[place]:
            return at, place, total
        place, paid = steps[place][move]
        total += paid
    return None, place, total


def _whole_graph(house):
    """Return the graph of all contents, come to or not: they all may stand in a table."""
    return {content: moves(house, content) for content in contents(house)}


def _by_pairs(table):
    return [((content, beside), number) for content, beside, number in table]


def _table_fault(entries, costs, first, span):
    """Return the first fault of entries (place, number), where a move takes what it costs from the number."""
    numbers = {place: number for place, number in entries}
    if first not in numbers:
        return ("start",)
    if not span[0] <= numbers[first] <= span[1]:
        return ("number",)
    for k, (place, number) in enumerate(entries):
        for move, after, cost in costs[place]:
            if after not in numbers or numbers[after] > number - cost:
                return "move", k, move[0], move[1]
    return None
