"""Houses that several tests use."""

import random

from paidahead.histories import come_to
from paidahead.houses import require_house
from paidahead.moves import moves

PUT = ((("add", 0, 1), ("pay", 1)),)
READ = ((("toll", 0, (0, 4, 6, 7, 7)), ("set", 0, 0)),)
LOG = ((5,), (0,), (PUT, READ))

# Two cells, three deeds of three, two and one ways, and each kind of step.
FULL = (
    (3, 4),
    (2, 1),
    (
        (
            (("pay", 7), ("toll", 1, (0, 1, 2, 99))),
            (),
            (("set", 0, 2), ("add", 1, 1), ("take", 0, 1), ("pour", 0, 1), ("pour", 1, 0), ("pay", 99)),
        ),
        (
            (("only", 0, 0, 2), ("when", 1, 1, 3, ("take", 1, 1))),
            (("when", 0, 1, 1, ("when", 1, 0, 0, ("toll", 0, (4, 5, 6)))),),
        ),
        ((("only", 1, 2, 2),),),
    ),
)

# Three cells of 24 contents together.
WIDE = (
    (2, 3, 4),
    (0, 2, 0),
    (
        ((("pour", 0, 2), ("set", 0, 1)), (("pour", 2, 1), ("pay", 3))),
        ((("take", 2, 1), ("add", 1, 1)),),
    ),
)

HOUSES = (LOG, FULL, WIDE)

# One deed; its only ring has three moves and pays 10.
WHEEL = (
    (3,),
    (0,),
    (((("only", 0, 0, 1), ("add", 0, 1), ("pay", 1)), (("only", 0, 2, 2), ("set", 0, 0), ("pay", 8))),),
)

# Three deeds that make a ring only together, which pays 14.
ROUND = (
    (3,),
    (0,),
    (
        ((("only", 0, 0, 0), ("set", 0, 1), ("pay", 2)),),
        ((("only", 0, 1, 1), ("set", 0, 2), ("pay", 3)),),
        ((("only", 0, 2, 2), ("set", 0, 0), ("pay", 9)),),
    ),
)

# From a hall to one of two rooms, which are not left any more: in each of them another deed is dear.
ROOMS = (
    (3,),
    (0,),
    (
        (
            (("only", 0, 0, 0), ("set", 0, 1)),
            (("only", 0, 0, 0), ("set", 0, 2)),
            (("only", 0, 1, 2), ("toll", 0, (0, 5, 1))),
        ),
        ((("only", 0, 1, 2), ("toll", 0, (0, 1, 5))),),
    ),
)

# Begin alone is come to: the dear rings at 2 and 3 count for nothing.
SHUT = ((4,), (1,), (((("only", 0, 1, 1), ("pay", 2)), (("only", 0, 2, 3), ("pay", 99))),))

# No move is not barred in begin.
STUCK = ((2,), (0,), (((("only", 0, 1, 1), ("pay", 9)),), ((("take", 0, 1),),)))

# A ring of one move behind a road of three moves.
BEHIND = ((4,), (0,), (((("add", 0, 1), ("pay", 50)), (("only", 0, 3, 3), ("pay", 7))),))

# No ring pays anything.
FREE = ((3,), (0,), (((("when", 0, 0, 1, ("add", 0, 1)),),), ((("set", 0, 0),),)))

# A turn is two moves of the first deed and three of the second one, and pays 5.
FIVE = (
    (6,),
    (0,),
    (
        ((("only", 0, 0, 1), ("add", 0, 1), ("pay", 1)),),
        ((("only", 0, 2, 3), ("add", 0, 1), ("pay", 1)), (("only", 0, 4, 4), ("set", 0, 0), ("pay", 1))),
    ),
)

# Counts puts from 0 to 23; a read at n pays so much that n puts and the read pay more by less and less: its front
# has 23 corners.
COUNTER = (
    (8, 3),
    (0, 0),
    (
        ((("only", 0, 0, 6), ("add", 0, 1)), (("only", 0, 7, 7), ("set", 0, 0), ("add", 1, 1))),
        (
            (
                ("only", 1, 0, 0), ("toll", 0, (0, 23, 45, 66, 86, 99, 99, 99)),
                ("toll", 0, (0, 0, 0, 0, 0, 6, 24, 41)), ("set", 0, 0),
            ),
            (
                ("only", 1, 1, 1), ("toll", 0, (57, 73, 88, 99, 99, 99, 99, 99)), ("pay", 99),
                ("toll", 0, (0, 0, 0, 3, 16, 28, 39, 49)), ("set", 0, 0), ("set", 1, 0),
            ),
            (
                ("only", 1, 2, 2), ("toll", 0, (58, 66, 73, 79, 84, 88, 91, 93)), ("pay", 99), ("pay", 99),
                ("set", 0, 0), ("set", 1, 0),
            ),
        ),
    ),
)


# As large as a house may be: 24 contents, all come to, and three deeds of three ways of six steps each.
def _busy(first, second, many, few):
    """A way of two steps, with tolls around them."""
    return (
        ("toll", 2, many), first, ("toll", 1, few), second,
        ("when", 0, 1, 1, ("when", 2, 2, 3, ("toll", 1, few[::-1]))), ("toll", 0, few[:2]),
    )


LARGE = (
    (2, 3, 4),
    (0, 0, 0),
    (
        (
            _busy(("when", 2, 0, 2, ("add", 2, 1)), ("pay", 1), (0, 1, 2, 3), (0, 9, 4)),
            _busy(("set", 2, 0), ("toll", 0, (0, 30)), (0, 20, 30, 60), (2, 0, 3)),
            _busy(("when", 1, 0, 1, ("add", 1, 1)), ("pay", 2), (9, 4, 1, 0), (1, 3, 9)),
        ),
        (
            _busy(("set", 1, 0), ("toll", 2, (4, 3, 2, 1)), (0, 1, 4, 9), (0, 40, 99)),
            _busy(("when", 0, 0, 0, ("add", 0, 1)), ("when", 1, 2, 2, ("pay", 50)), (1, 0, 0, 1), (2, 5, 3)),
            _busy(("set", 0, 0), ("when", 2, 3, 3, ("set", 1, 1)), (3, 3, 0, 7), (6, 1, 2)),
        ),
        (
            _busy(("when", 2, 1, 3, ("take", 2, 1)), ("pay", 3), (2, 7, 1, 8), (2, 8, 1)),
            _busy(("pay", 1), ("pay", 1), (1, 2, 3, 5), (1, 1, 2)),
            _busy(("when", 1, 1, 2, ("take", 1, 1)), ("when", 0, 1, 1, ("set", 2, 2)), (8, 0, 0, 2), (0, 7, 5)),
        ),
    ),
)

NAMED = (LOG, FULL, WIDE, WHEEL, ROUND, ROOMS, SHUT, STUCK, BEHIND, FREE, LARGE)

# The largest houses of two deeds.
LARGE_PAIRS = tuple(LARGE[:2] + ((LARGE[2][k], LARGE[2][n]),) for k, n in ((0, 1), (1, 2), (2, 0))) + (COUNTER,)


def only_ways(house, ways=(0, 0, 0)):
    """The house with one way alone for each deed."""
    return house[:2] + (tuple((deed[way % len(deed)],) for deed, way in zip(house[2], ways)),)


def log_with(*tolls):
    """LOG with other tolls."""
    return LOG[:2] + ((PUT, ((("toll", 0, tolls), ("set", 0, 0)),)),)


def with_steps(sizes, *steps):
    """A house of these sizes whose only deed has one way, of these steps."""
    return (sizes, (0,) * len(sizes), ((steps,),))


def _span(source, size):
    low = source.randrange(size)
    return low, source.randrange(low, size)


def _when(source, sizes, step):
    cell = source.randrange(len(sizes))
    return ("when", cell) + _span(source, sizes[cell]) + (step,)


def _some_step(source, sizes):
    cell = source.randrange(len(sizes))
    size = sizes[cell]
    kind = source.randrange(10)
    if kind == 0:
        return ("pay", source.choice((1, 2, 5, 99)))
    if kind in (1, 2):
        return ("toll", cell, tuple(source.choice((0, source.randrange(100))) for _ in range(size)))
    if kind == 3:
        return ("when", cell, 0, size - 2, ("add", cell, 1))
    if kind == 4:
        return ("when", cell, 1, size - 1, ("take", cell, 1))
    if kind == 5:
        return _when(source, sizes, ("set", cell, source.randrange(size)))
    if kind == 6:
        return _when(source, sizes, _when(source, sizes, ("pay", source.randrange(1, 100))))
    if kind == 7 and len(sizes) > 1:
        return ("pour", cell, source.choice([other for other in range(len(sizes)) if other != cell]))
    if kind == 8:
        return ("only", cell) + _span(source, size)
    return (source.choice(("add", "take")), cell, source.randrange(1, size))


def _some_deed(source, sizes):
    ways = source.randrange(1, 4)
    return tuple(tuple(_some_step(source, sizes) for _ in range(source.randrange(7))) for _ in range(ways))


def many_houses(seed, how_many, shapes=((2,), (3,), (5,), (2, 2), (2, 3), (2, 2, 2))):
    """Houses of all sorts, the same ones for the same seed; each is come to at two contents or more."""
    source = random.Random(seed)
    found = []
    while len(found) < how_many:
        sizes = source.choice(shapes)
        begin = tuple(source.randrange(size) for size in sizes)
        house = (sizes, begin, tuple(_some_deed(source, sizes) for _ in range(source.randrange(1, 4))))
        if leads_on(house):
            found.append(require_house(house))
    return found


def _guarded_way(source, size):
    low, high = _span(source, size)
    numbers = tuple(source.choice((0, 0, 1, 2, 3)) for _ in range(size))
    up, down = ("when", 0, 0, size - 2, ("add", 0, 1)), ("when", 0, 1, size - 1, ("take", 0, 1))
    leap = ("set", 0, source.randrange(size))
    return ("only", 0, low, high), ("toll", 0, numbers), source.choice((up, down, leap))


def guarded_houses(seed, how_many, sizes=(3, 4)):
    """Houses of one cell whose ways pay little and are open at few contents, so that many rings pay about the same."""
    source = random.Random(seed)
    found = []
    while len(found) < how_many:
        size, many = source.choice(sizes), source.choice((2, 3, 3))
        deeds = tuple(tuple(_guarded_way(source, size) for _ in range(source.randrange(1, 4))) for _ in range(many))
        if leads_on(((size,), (0,), deeds)):
            found.append(require_house(((size,), (0,), deeds)))
    return found


def _rich_way(source, sizes):
    steps = []
    while len(steps) < 6:
        cell = source.randrange(len(sizes))
        size, kind = sizes[cell], source.randrange(10)
        if kind < 3:
            step = ("when", cell, 0, size - 2, ("add", cell, 1))
        elif kind < 5:
            step = ("when", cell, 1, size - 1, ("take", cell, 1))
        elif kind < 7:
            step = ("set", cell, source.randrange(size))
        else:
            step = ("toll", cell, tuple(source.choice((0, source.randrange(100))) for _ in range(size)))
        if step[0] != "when" and source.randrange(2):
            step = _when(source, sizes, step)
        steps.append(step)
    return tuple(steps)


def rich_houses(seed, how_many, deeds=2):
    """Houses of 24 contents, most of which are come to."""
    source = random.Random(seed)
    found = []
    while len(found) < how_many:
        sizes = source.choice(((8, 3), (4, 6), (2, 3, 4), (3, 8), (6, 4)))
        ways = [[_rich_way(source, sizes) for _ in range(source.randrange(1, 4))] for _ in range(deeds)]
        house = (sizes, tuple(source.randrange(size) for size in sizes), tuple(tuple(deed) for deed in ways))
        if len(come_to(house)) >= 16:
            found.append(require_house(house))
    return found


def leads_on(house):
    return any(after != house[1] for _, after, _ in moves(house, house[1]))


def some_history(source, house, content, length):
    """A history from this content, of so many moves or fewer if all are barred before."""
    found = []
    while len(found) < length and moves(house, content):
        move, content, _ = source.choice(moves(house, content))
        found.append(move)
    return tuple(found)
