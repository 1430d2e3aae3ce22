"""The errors that the package raises."""


class InvalidHouse(ValueError):
    """A value is no house; part tells where."""

    def __init__(self, part):
        ValueError.__init__(self, f"no house: the part that is wrong is {part}")
        self.part = part


class InvalidTariff(ValueError):
    """A value is no tariff of the house."""


class InvalidStock(ValueError):
    """A value is no stock, or no amount to pay in."""


class InvalidClaim(ValueError):
    """A value is no claim, or none that is valid for the house."""


class Unfair(ValueError):
    """The tariff is not fair, or the start does not cover the need."""


class TwoDeeds(ValueError):
    """A house has not two deeds where two are asked for."""


class ParseError(ValueError):
    """A text is not written as it must be; line is the index of the line that shows it."""

    def __init__(self, line):
        ValueError.__init__(self, f"the text does not fit at line {line}")
        self.line = line


# An index or a number may be any value, however large: so it does not stand in the message.


class UnknownHouse(LookupError):
    """A street has no house of this index."""

    def __init__(self, index):
        LookupError.__init__(self, "there is no house of this index")
        self.index = index


class UnknownDeed(LookupError):
    """A house has no deed of this index."""

    def __init__(self, index):
        LookupError.__init__(self, "there is no deed of this index")
        self.index = index


class UnknownCheckpoint(LookupError):
    """A street has no checkpoint of this number."""

    def __init__(self, number):
        LookupError.__init__(self, "there is no checkpoint of this number")
        self.number = number


class UnknownRecord(LookupError):
    """A street has no record of this number."""

    def __init__(self, number):
        LookupError.__init__(self, "there is no record of this number")
        self.number = number


class Barred(RuntimeError):
    """There is no such move, or it is barred."""


class Short(RuntimeError):
    """The purse would be below 0."""


class NotHome(RuntimeError):
    """The house does not come home."""


class LimitExceeded(OverflowError):
    """There are as many as limit allows already."""

    def __init__(self, limit):
        OverflowError.__init__(self, f"there are {limit} already")
        self.limit = limit


class TooLong(OverflowError):
    """A history would have more moves than limit."""

    def __init__(self, limit):
        OverflowError.__init__(self, f"more than {limit} moves")
        self.limit = limit
