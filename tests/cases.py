"""What several tests ask in the same way."""

import time
import unittest

ODD = (None, True, False, -1, 7, 10 ** 29, -(10 ** 29), "", "0", "add", [], [0], [0, 0], {}, {0: 0}, (0,), (0, 0, 0))

SOME_SECONDS = 5


def deep(depth):
    """A value that is nested so deep."""
    value = ()
    for at in range(depth):
        value = (value, [at], {at: value}) if at % 2 else [value]
    return value


# Values of all kinds that are nothing in particular.
ANY = ODD + (
    (), ((),), ((), ()), ((), (), ()), [[], []], [(), ()], ((), []), (None, None), ("", ""), {"road": (), "turn": ()},
    1, 2, "3 2 by 1", ((0, 0), 1, 1), deep(40), (deep(39), deep(39)), tuple(range(199999)), ((0, 0),) * 199999,
    [(0, 0)] * 199999, ("a" * 100000, ()), ((), {"a": [1, (2, {3: None})]}),
)


def replacements(value):
    """All values that come of value, a nest of tuples, if one part of it, or all, is replaced by an odd one."""
    for odd in ODD:
        if not (isinstance(odd, type(value)) and odd == value):
            yield odd
    if isinstance(value, tuple):
        yield list(value)
        yield value + (0,)
        yield value[:-1]
        for at, part in enumerate(value):
            for other in replacements(part):
                yield value[:at] + (other,) + value[at + 1:]


class Case(unittest.TestCase):
    def check_calls(self, function, by_position, by_name=()):
        """The arguments, which are pairs of a name and a value, are the same afterwards, and may be named."""
        values = [value for _, value in by_position]
        only = dict(by_name)
        before = repr((values, only))
        start = time.monotonic()
        told = function(*values, **only)
        self.assertLess(time.monotonic() - start, SOME_SECONDS, function)
        self.assertEqual(function(**dict(by_position), **only), told)
        self.assertEqual(function(*values, **only), told)
        self.assertEqual(repr((values, only)), before)
        if only:
            with self.assertRaises(TypeError):
                function(*values, *only.values())
        return told
