"""Quotients of integers in lowest terms."""

from math import gcd


def divisor(numbers):
    """Return the greatest integer that divides all of these numbers, of which one is above 0."""
    found = 0
    for number in numbers:
        found = gcd(found, number)
    return found


def lowest(numbers):
    """Return the tuple of these numbers, divided by the greatest integer that divides them all."""
    most = divisor(numbers)
    return tuple([number // most for number in numbers])
