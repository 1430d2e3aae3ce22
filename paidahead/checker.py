"""Whether certificates are right; nothing is searched for here."""

from paidahead.commons import both_begins, common_graph
from paidahead.faults import common_table_fault, counts_of, history_fault, most_table_fault, ring_fault
from paidahead.faults import steps_of, stocks_fault, under, unless
from paidahead.forms import is_claim
from paidahead.graphs import graph_from
from paidahead.papers import is_paper
from paidahead.tariffs import charge
from paidahead.values import is_row


def first_fault(house, certificate):
    """Return None if certificate, which may be any value, is right, else its first fault."""
    if not is_row(certificate, 3, 3):
        return ("form",)
    word, claim, content = certificate
    if not is_claim(house, claim):
        return ("claim",)
    if not is_paper(house, word, claim, content):
        return ("form",)
    if word == "shown":
        check = SHOWN[claim[0]]
    else:
        check = BROKEN[claim[0]]
    return check(house, claim, content)


def _fair_shown(house, claim, stocks):
    return stocks_fault(house, claim[1], stocks)


def _fair_broken(house, claim, ring):
    return _unpaid_fault(house, claim[1], ring)


def _need_shown(house, claim, content):
    _, tariff, number = claim
    stocks, history = content
    fault = stocks_fault(house, tariff, stocks, number, number)
    if fault is not None:
        return fault
    fault, loss = _loss(house, tariff, history)
    return fault or unless(loss == number, "amount")


def _need_broken(house, claim, content):
    _, tariff, number = claim
    word, proof = content
    if word == "endless":
        return _unpaid_fault(house, tariff, proof)
    if word == "less":
        return stocks_fault(house, tariff, proof, 0, number - 1)
    fault, loss = _loss(house, tariff, proof)
    return fault or unless(loss > number, "amount")


def _worth_shown(house, claim, content):
    _, mix, p, q = claim
    tariff, stocks, plan = content
    if charge(tariff, mix) * q != p * tariff[1]:
        return ("sum",)
    fault = stocks_fault(house, tariff, stocks)
    if fault is not None:
        return fault
    fault, paid = _plan_fault(house, mix, plan)
    return fault or unless(paid * q == p * plan[0], "amount")


def _worth_broken(house, claim, content):
    _, mix, p, q = claim
    if content[0] == "less":
        _, tariff, stocks = content
        if charge(tariff, mix) * q >= p * tariff[1]:
            return ("sum",)
        return stocks_fault(house, tariff, stocks)
    plan = content[1]
    fault, paid = _plan_fault(house, mix, plan)
    return fault or unless(paid * q > p * plan[0], "amount")


def _front_shown(house, claim, content):
    return _front_fault(house, claim[1], content)


def _front_broken(house, claim, content):
    corners = claim[1]
    if content[0] == "short":
        _, k, ring = content
        return _unpaid_fault(house, corners[k], ring)
    _, mix, tariff, stocks = content
    for corner in corners:
        if charge(corner, mix) * tariff[1] <= charge(tariff, mix) * corner[1]:
            return ("sum",)
    return stocks_fault(house, tariff, stocks)


def _most_shown(house, claim, content):
    _, limits, number = claim
    history, table = content
    fault, paid = _limited_fault(house, limits, history)
    fault = fault or unless(paid == number, "amount")
    return fault or most_table_fault(house, limits, table, number, number)


def _most_broken(house, claim, content):
    _, limits, number = claim
    word, proof = content
    if word == "less":
        return most_table_fault(house, limits, proof, 0, number - 1)
    fault, paid = _limited_fault(house, limits, proof)
    return fault or unless(paid > number, "amount")


def _within_shown(house, claim, table):
    _, other, number = claim
    return common_table_fault(house, other, table, number)


def _within_broken(house, claim, content):
    _, other, number = claim
    word, proof = content
    steps, start = steps_of(common_graph(house, other)), both_begins(house, other)
    if word == "endless":
        fault, more = ring_fault(steps, start, proof)
        return fault or unless(more > 0, "amount")
    fault, more = history_fault(steps, start, proof)
    return fault or unless(more > number, "amount")


def _wins_shown(house, claim, content):
    other = claim[1]
    mix, tariff, stocks, plan = content
    fault = stocks_fault(house, tariff, stocks)
    if fault is not None:
        return fault
    fault, paid = _plan_fault(other, mix, plan)
    return fault or unless(paid * tariff[1] > charge(tariff, mix) * plan[0], "amount")


def _wins_broken(house, claim, content):
    corners, others = content[0], content[5]
    fault = _front_fault(house, corners, content[1:5])
    return fault or _corners_fault(claim[1], corners, others, "other")


SHOWN = {
    "fair": _fair_shown,
    "need": _need_shown,
    "worth": _worth_shown,
    "front": _front_shown,
    "most": _most_shown,
    "within": _within_shown,
    "wins": _wins_shown,
}
BROKEN = {
    "fair": _fair_broken,
    "need": _need_broken,
    "worth": _worth_broken,
    "front": _front_broken,
    "most": _most_broken,
    "within": _within_broken,
    "wins": _wins_broken,
}


def _steps(house):
    return steps_of(graph_from(house, house[1]))


def _charged(house, tariff, history):
    """Return the charge of the moves of a history."""
    return charge(tariff, counts_of(len(house[2]), history))


def _unpaid_fault(house, tariff, ring):
    """Return the first fault of a ring that the tariff must not pay."""
    fault, paid = ring_fault(_steps(house), house[1], ring)
    return fault or unless(_charged(house, tariff, ring[1]) < tariff[1] * paid, "paid")


def _loss(house, tariff, history):
    """Return (fault, q times payment less charge) of a history from begin."""
    fault, paid = history_fault(_steps(house), house[1], history)
    return fault, tariff[1] * paid - _charged(house, tariff, history)


def _limited_fault(house, limits, history):
    """Return (fault, paid) of a history from begin with at most so many moves of each deed."""
    fault, paid = history_fault(_steps(house), house[1], history)
    counts = counts_of(len(limits), history)
    return fault or unless(all([count <= limit for count, limit in zip(counts, limits)]), "counts"), paid


def _plan_fault(house, mix, plan):
    """Return (fault, paid) of a plan that must be within the mix; paid counts all lots together."""
    lots, parts = plan
    steps = _steps(house)
    left = [lots * number for number in mix]
    total = 0
    for j, (times, road, turn) in enumerate(parts):
        fault, paid = ring_fault(steps, house[1], (road, turn))
        if fault is not None:
            return ("part", j, fault), 0
        left = [number - times * count for number, count in zip(left, counts_of(len(mix), turn))]
        total += times * paid
    return unless(all([number >= 0 for number in left]), "mix"), total


def _corners_fault(house, corners, stocks_of, word):
    """Return the first fault of stocks for each corner."""
    for k, (corner, stocks) in enumerate(zip(corners, stocks_of)):
        fault = stocks_fault(house, corner, stocks)
        if fault is not None:
            return word, k, fault
    return None


def _front_fault(house, corners, papers):
    """Return the first fault of what shows that these corners are the front."""
    stocks_of, first, edges, last = papers
    fault = _corners_fault(house, corners, stocks_of, "corner")
    if fault is not None:
        return fault
    steps = _steps(house)
    fault = under(("first",), _just_fault(house, steps, first, (1,), corners[:1]))
    for k, ring in enumerate(edges):
        fault = fault or under(("edge", k), _just_fault(house, steps, ring, (), corners[k:k + 2]))
    return fault or under(("last",), _just_fault(house, steps, last, (0,), corners[-1:]))


def _just_fault(house, steps, ring, barred_deeds, corners):
    """Return the first fault of a ring without these deeds that the corners must just pay; None for no ring."""
    if ring is None:
        return None
    fault, paid = ring_fault(steps, house[1], ring)
    counts = counts_of(len(house[2]), ring[1])
    fault = fault or unless(all([counts[deed] == 0 for deed in barred_deeds]), "deeds")
    return fault or unless(all([charge(corner, counts) == corner[1] * paid for corner in corners]), "unjust")
