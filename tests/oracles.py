"""What the document says, worked out in the slow and plain way, by moves alone."""

from fractions import Fraction
from itertools import combinations
from math import gcd

from paidahead.moves import done, moves


def led(house, content, history):
    """The content to which a history leads, or None if a move is barred."""
    for move in history:
        after = done(house, content, move)
        if after is None:
            return None
        content = after[0]
    return content


def spent(house, content, history):
    """(counts, paid) of a history."""
    counts = [0] * len(house[2])
    total = 0
    for move in history:
        content, paid = done(house, content, move)
        counts[move[0]] += 1
        total += paid
    return tuple(counts), total


def loss(house, tariff, content, history):
    """q times payment less charge of a history."""
    prices, q = tariff
    counts, paid = spent(house, content, history)
    return q * paid - sum(count * price for count, price in zip(counts, prices))


def reached(house, content):
    """The list of the contents to which histories from this one lead, ascending."""
    found = {content}
    while True:
        more = found | {after for place in found for _, after, _ in moves(house, place)}
        if more == found:
            return sorted(found)
        found = more


def turns(house):
    """All (counts, paid) of turns that come to no content twice; of like ones only the dearest."""
    graph = {place: _dearest(house, place) for place in reached(house, house[1])}
    found = {}
    for start in graph:
        _grow(graph, start, start, (start,), (0,) * len(house[2]), 0, found)
    return sorted(found.items())


def _dearest(house, place):
    """A dict: what the dearest way of a deed from this content to another one pays."""
    found = {}
    for (deed, _), after, paid in moves(house, place):
        found[deed, after] = max(paid, found.get((deed, after), 0))
    return found


def _grow(graph, start, place, seen, counts, paid, found):
    for (deed, after), more in graph[place].items():
        with_deed = counts[:deed] + (counts[deed] + 1,) + counts[deed + 1:]
        if after == start:
            found[with_deed] = max(paid + more, found.get(with_deed, 0))
        elif after > start and after not in seen:
            _grow(graph, start, after, seen + (after,), with_deed, paid + more, found)


def is_fair(house, tariff):
    """A turn that comes to a content twice has two turns within it, so these turns tell of all rings."""
    prices, q = tariff
    return all(sum(a * b for a, b in zip(counts, prices)) >= q * paid for counts, paid in turns(house))


def greatest_loss(house, tariff, content):
    """For each content come to from this one, the greatest loss of histories to it; the tariff is fair."""
    prices, q = tariff
    found = {content: 0}
    for _ in range(len(reached(house, content)) + 1):
        for place in sorted(found):
            for (deed, _), after, paid in moves(house, place):
                more = found[place] + q * paid - prices[deed]
                found[after] = max(more, found.get(after, more))
    return found


def worth(house, mix):
    """The least sum by the mix over all corners of what the rings ask of the prices, as (p, q)."""
    many = len(mix)
    asked = turns(house) + [(tuple(int(at == deed) for at in range(many)), 0) for deed in range(many)]
    sums = []
    for rows in combinations(asked, many):
        prices = _solved([list(counts) + [paid] for counts, paid in rows])
        if prices is not None and all(_sum(counts, prices) >= paid for counts, paid in asked):
            sums.append(_sum(mix, prices))
    least = min(sums)
    return least.numerator, least.denominator


def _sum(numbers, prices):
    return sum(number * price for number, price in zip(numbers, prices))


def _solved(rows):
    """The numbers that fulfil the equations, or None if they do not tell them."""
    rows = [[Fraction(number) for number in row] for row in rows]
    for at in range(len(rows)):
        pivot = next((k for k in range(at, len(rows)) if rows[k][at] != 0), None)
        if pivot is None:
            return None
        rows[at], rows[pivot] = rows[pivot], rows[at]
        rows[at] = [number / rows[at][at] for number in rows[at]]
        for k in range(len(rows)):
            if k != at:
                rows[k] = [a - rows[k][at] * b for a, b in zip(rows[k], rows[at])]
    return [row[-1] for row in rows]


def lowest(p, q):
    return p // gcd(p, q), q // gcd(p, q)


def corners(house):
    """The corners of the front: where two of the things that are asked of the prices just hold, and all others do."""
    asked = turns(house) + [((1, 0), 0), ((0, 1), 0)]
    found = set()
    for rows in combinations(asked, 2):
        prices = _solved([list(counts) + [paid] for counts, paid in rows])
        if prices is not None and all(_sum(counts, prices) >= paid for counts, paid in asked):
            found.add(tuple(prices))
    return sorted(found)


def quotients(tariff):
    """The prices of a tariff as fractions."""
    return tuple(Fraction(price, tariff[1]) for price in tariff[0])


def most(house, limits):
    """The most for limits, by all that can be done and what it pays at most, one move after the other."""
    known = {(house[1], (0,) * len(limits)): 0}
    best = 0
    while known:
        longer = {}
        for (content, counts), paid in known.items():
            for (deed, _), after, more in moves(house, content):
                if counts[deed] < limits[deed]:
                    key = after, counts[:deed] + (counts[deed] + 1,) + counts[deed + 1:]
                    longer[key] = max(paid + more, longer.get(key, 0))
        best = max([best] + list(longer.values()))
        known = longer
    return best


def common_moves(house, other, pair):
    """(move, pair of contents, payment of the first less that of the other) for each common move."""
    found = []
    for move, after, paid in moves(house, pair[0]):
        beside = done(other, pair[1], (move[0], 0))
        if beside is not None:
            found.append((move, (after, beside[0]), paid - beside[1]))
    return found


def excess(house, other):
    """The excess, or None: once round for each pair of contents, and it must not become more then."""
    known, lines = {(house[1], other[1]): 0}, {}
    rounds = 0
    while True:
        before = dict(known)
        for pair, more in before.items():
            if pair not in lines:
                lines[pair] = common_moves(house, other, pair)
            for _, after, gain in lines[pair]:
                known[after] = max(more + gain, known.get(after, more + gain))
        if known == before:
            return max(known.values())
        rounds += 1
        if rounds > len(known):
            return None


def common_walk(house, other, pair, history):
    """(pair of contents, payment of the first less that of the other) of a common history, or None if it is barred."""
    total = 0
    for move in history:
        mine, theirs = done(house, pair[0], move), done(other, pair[1], (move[0], 0))
        if mine is None or theirs is None:
            return None
        pair, total = (mine[0], theirs[0]), total + mine[1] - theirs[1]
    return pair, total
