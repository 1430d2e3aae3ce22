"""Houses that several tests use."""

PUT = ((("add", 0, 1), ("pay", 1)),)
READ = ((("toll", 0, (0, 4, 6, 7, 7)), ("set", 0, 0)),)
LOG = ((5,), (0,), (PUT, READ))

# Two cells, three deeds of three, two and one ways, and each kind of step.
FULL = (
    (3, 4),
    (2, 1),
    (
        (
            (("pay", 7), ("toll", 1, (0, 1, 2, 99))),
            (),
            (("set", 0, 2), ("add", 1, 1), ("take", 0, 1), ("pour", 0, 1), ("pour", 1, 0), ("pay", 99)),
        ),
        (
            (("only", 0, 0, 2), ("when", 1, 1, 3, ("take", 1, 1))),
            (("when", 0, 1, 1, ("when", 1, 0, 0, ("toll", 0, (4, 5, 6)))),),
        ),
        ((("only", 1, 2, 2),),),
    ),
)

# Three cells of 24 contents together.
WIDE = (
    (2, 3, 4),
    (0, 2, 0),
    (
        ((("pour", 0, 2), ("set", 0, 1)), (("pour", 2, 1), ("pay", 3))),
        ((("take", 2, 1), ("add", 1, 1)),),
    ),
)

HOUSES = (LOG, FULL, WIDE)


def with_steps(sizes, *steps):
    """A house of these sizes whose only deed has one way, of these steps."""
    return (sizes, (0,) * len(sizes), ((steps,),))
