"""Streets of houses that follow one tariff with one purse."""

from paidahead.checker import first_fault
from paidahead.claims import decide
from paidahead.errors import Barred, InvalidHouse, InvalidStock, LimitExceeded, Short
from paidahead.errors import UnknownCheckpoint, UnknownDeed, UnknownHouse, UnknownRecord
from paidahead.houses import is_deed, require_house
from paidahead.moves import done, is_move
from paidahead.stocks import need_of
from paidahead.tariffs import require_tariff
from paidahead.values import is_number, is_row, replaced

MOST_HOUSES = 4
MOST_AMOUNT = 900000000000
MOST_CHECKPOINTS = 4
MOST_RECORDS = 8


class Street:
    """Houses beside one another; the purse is counted in parts of 1 / q, and never below 0."""

    def __init__(self, houses, tariff, *, stock=0):
        _require_houses(houses)
        self._tariff = require_tariff(houses[0], tariff)
        self._purse = _require_amount(stock)
        self._houses = houses
        self._contents = tuple([house[1] for house in houses])
        self._counts = tuple([(0,) * len(house[2]) for house in houses])
        self._moves = 0
        self._paid = 0
        self._checkpoints = []
        self._certificates = []

    def __len__(self):
        return len(range(self._moves))

    def do(self, which, deed, way):
        """Do a move in a house; return what is paid."""
        house = self._house(which)
        move = (deed, way)
        after = done(house, self._contents[which], move) if is_move(house, move) else None
        if after is None:
            raise Barred()
        content, paid = after
        prices, q = self._tariff
        purse = self._purse + prices[deed] - q * paid
        if purse < 0:
            raise Short()
        self._purse = purse
        self._paid += paid
        self._moves += 1
        self._contents = replaced(self._contents, which, content)
        counts = self._counts[which]
        self._counts = replaced(self._counts, which, replaced(counts, deed, counts[deed] + 1))
        return paid

    def purse(self):
        """Return what is in the purse."""
        return self._purse

    def paid(self):
        """Return all that was paid."""
        return self._paid

    def houses(self):
        """Return the tuple of the houses as they are now."""
        return self._houses

    def tariff(self):
        """Return the tariff as it is now."""
        return self._tariff

    def content(self, which):
        """Return the content of a house."""
        self._house(which)
        return self._contents[which]

    def counts(self, which):
        """Return how many moves of each deed were done in a house."""
        self._house(which)
        return self._counts[which]

    def forecast(self):
        """Return the sum of the needs of the present contents, or None if one is endless."""
        total = 0
        for house, content in zip(self._houses, self._contents):
            need = need_of(house, self._tariff, content)
            if need is None:
                return None
            total += need
        return total

    def set_tariff(self, tariff):
        """Follow another tariff; the purse is counted in its parts then, and rounded down."""
        after = require_tariff(self._houses[0], tariff)
        self._purse = self._purse * after[1] // self._tariff[1]
        self._tariff = after

    def set_deed(self, which, index, deed):
        """Put a deed in the place of one of a house."""
        sizes, begin, deeds = self._house(which)
        if not is_number(index, 0, len(deeds) - 1):
            raise UnknownDeed(index)
        if not is_deed(sizes, deed):
            raise InvalidHouse(("deed", index))
        self._houses = replaced(self._houses, which, (sizes, begin, replaced(deeds, index, deed)))

    def go_home(self, which):
        """Set a house back to its begin."""
        self._contents = replaced(self._contents, which, self._house(which)[1])

    def pay_in(self, amount):
        """Put an amount into the purse."""
        self._purse += _require_amount(amount)

    def checkpoint(self):
        """Keep houses, contents, tariff and purse; return the number to restore them by."""
        if len(self._checkpoints) >= MOST_CHECKPOINTS:
            raise LimitExceeded(MOST_CHECKPOINTS)
        self._checkpoints.append((self._houses, self._contents, self._tariff, self._purse))
        return len(self._checkpoints) - 1

    def restore(self, number):
        """Bring back what a checkpoint keeps."""
        if not is_number(number, 0, len(self._checkpoints) - 1):
            raise UnknownCheckpoint(number)
        self._houses, self._contents, self._tariff, self._purse = self._checkpoints[number]

    def decide(self, which, claim):
        """Return a certificate that decides a claim about a house, with its own begin."""
        return decide(self._house(which), claim)

    def record(self, which, claim):
        """Decide a claim about a house, and keep the certificate; return the number of the record."""
        if len(self._certificates) >= MOST_RECORDS:
            raise LimitExceeded(MOST_RECORDS)
        certificate = decide(self._house(which), claim)
        self._certificates.append((which, certificate))
        return len(self._certificates) - 1

    def records(self):
        """Return how many records there are."""
        return len(self._certificates)

    def recorded(self, number):
        """Return (which, certificate) of a record."""
        if not is_number(number, 0, len(self._certificates) - 1):
            raise UnknownRecord(number)
        return self._certificates[number]

    def standing(self, number):
        """Return None if a record stands for its house as it is now, else the first fault."""
        which, certificate = self.recorded(number)
        return first_fault(self._houses[which], certificate)

    def _house(self, which):
        if not is_number(which, 0, len(self._houses) - 1):
            raise UnknownHouse(which)
        return self._houses[which]


def _require_houses(value):
    """Raise InvalidHouse unless value, which may be any value, is a tuple of 1 to 4 houses with as many deeds."""
    if not is_row(value, 1, MOST_HOUSES):
        raise InvalidHouse(None)
    for house in value:
        require_house(house)
    if not all([len(house[2]) == len(value[0][2]) for house in value]):
        raise InvalidHouse(("deeds",))


def _require_amount(value):
    """Return value, which may be any value, or raise InvalidStock if it is no amount of money."""
    if not is_number(value, 0, MOST_AMOUNT):
        raise InvalidStock()
    return value
