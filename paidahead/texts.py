"""Houses and tariffs, written as texts."""

from paidahead.errors import ParseError
from paidahead.houses import MOST_DEEDS, MOST_STEPS, MOST_WAYS, MOST_WHENS, are_sizes, is_content, is_step
from paidahead.tariffs import is_tariff

DIGITS = "0123456789"

# No number of a house or a tariff has more digits.
MOST_DIGITS = 10


def format_house(house):
    """Return the text of a house."""
    sizes, begin, deeds = house
    lines = [f"cells {_joined(sizes)}", f"begin {_joined(begin)}"]
    for deed in deeds:
        lines.append("deed")
        for way in deed:
            lines.append("way")
            lines.extend([_step_text(step) for step in way])
    return "".join([line + "\n" for line in lines])


def format_tariff(tariff):
    """Return the text of a tariff."""
    prices, q = tariff
    return f"{_joined(prices)} by {q}\n"


def parse_house(text):
    """Return the house of a text, or raise ParseError."""
    lines = text.split("\n")
    draft = Draft()
    for at, line in enumerate(lines[:-1]):
        if not draft.takes(line):
            raise ParseError(at)
    if lines[-1] != "" or not draft.is_whole():
        raise ParseError(len(lines) - 1)
    return draft.house()


def parse_tariff(text, house):
    """Return the tariff of the house of a text, or raise ParseError."""
    lines = text.split("\n")
    tariff = _tariff_of(lines[0].split(" "))
    if len(lines) == 1 or not is_tariff(house, tariff):
        raise ParseError(0)
    if lines[1:] != [""]:
        raise ParseError(1)
    return tariff


class Draft:
    """A house of which the lines so far tell; it takes only lines that can go on to a whole one."""

    def __init__(self):
        self._sizes = None
        self._begin = None
        self._deeds = []

    def takes(self, line):
        """Take the next line, if it fits; return whether it does."""
        words = line.split(" ")
        if self._sizes is None:
            return self._takes_sizes(words)
        if self._begin is None:
            return self._takes_begin(words)
        if words == ["deed"]:
            return self._takes_deed()
        # Ways stand in a deed, and steps in a way.
        if words == ["way"]:
            return self._deeds != [] and _takes(self._deeds[-1], MOST_WAYS, [])
        step = _step_of(words, MOST_WHENS)
        return self.is_whole() and is_step(self._sizes, step) and _takes(self._deeds[-1][-1], MOST_STEPS, step)

    def is_whole(self):
        """Tell whether the house may end here: its last deed has a way."""
        return self._deeds != [] and self._deeds[-1] != []

    def house(self):
        """Return the house."""
        deeds = [tuple([tuple(way) for way in deed]) for deed in self._deeds]
        return self._sizes, self._begin, tuple(deeds)

    def _takes_sizes(self, words):
        sizes = _numbers(words[1:])
        if words[0] != "cells" or not are_sizes(sizes):
            return False
        self._sizes = sizes
        return True

    def _takes_begin(self, words):
        begin = _numbers(words[1:])
        if words[0] != "begin" or not is_content(self._sizes, begin):
            return False
        self._begin = begin
        return True

    def _takes_deed(self):
        if self._deeds != [] and not self.is_whole():
            return False
        return _takes(self._deeds, MOST_DEEDS, [])


def _takes(parts, most, part):
    """Put a part behind the others, if there is room for it; return whether there is."""
    if len(parts) == most:
        return False
    parts.append(part)
    return True


def _joined(parts):
    return " ".join([str(part) for part in parts])


def _step_text(step):
    if step[0] == "toll":
        return f"toll {step[1]} by {_joined(step[2])}"
    if step[0] == "when":
        return _joined(step[:4]) + " " + _step_text(step[4])
    return _joined(step)


def _step_of(words, whens):
    """Return what stands for a step that is written so, of at most so many whens; None if no step is."""
    if words[0] == "when" and len(words) > 4 and whens > 0:
        span, step = _numbers(words[1:4]), _step_of(words[4:], whens - 1)
        return None if span is None else ("when",) + span + (step,)
    if words[0] == "toll" and words[2:3] == ["by"]:
        cell, told = _numbers(words[1:2]), _numbers(words[3:])
        return None if cell is None else ("toll",) + cell + (told,)
    told = _numbers(words[1:])
    return None if told is None else (words[0],) + told


def _tariff_of(words):
    """Return what stands for a tariff that is written so; None if no tariff is."""
    prices, q = _numbers(words[:-2]), _numbers(words[-1:])
    if words[-2:-1] != ["by"] or q is None:
        return None
    return (prices,) + q


def _numbers(words):
    """Return the tuple of the numbers that are written so; None if one of the words is no number."""
    found = [_number(word) for word in words]
    return None if None in found else tuple(found)


def _number(word):
    """Return the number that is written so; None if the word is no number, or one beyond all bounds."""
    if not (1 <= len(word) <= MOST_DIGITS and all([sign in DIGITS for sign in word])):
        return None
    if word[0] == "0" and word != "0":
        return None
    return int(word)
