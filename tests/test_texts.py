import random
import unittest

from paidahead.errors import InvalidHouse, ParseError
from paidahead.houses import require_house
from paidahead.tariffs import require_tariff
from paidahead.texts import format_house, format_tariff, parse_house, parse_tariff
from tests.cases import Case
from tests.samples import COUNTER, FIVE, FULL, LARGE, LOG, NAMED, ROUND, WHEEL, guarded_houses, many_houses, rich_houses
from tests.test_tariffs import some_tariff

LOG_TEXT = """cells 5
begin 0
deed
way
add 0 1
pay 1
deed
way
toll 0 by 0 4 6 7 7
set 0 0
"""

FULL_TEXT = """cells 3 4
begin 2 1
deed
way
pay 7
toll 1 by 0 1 2 99
way
way
set 0 2
add 1 1
take 0 1
pour 0 1
pour 1 0
pay 99
deed
way
only 0 0 2
when 1 1 3 take 1 1
way
when 0 1 1 when 1 0 0 toll 0 by 4 5 6
deed
way
only 1 2 2
"""

# Text that is a part of no line, in all sorts of ways.
ODD_LINES = (
    "", " ", "deeds", "Deed", "DEED", " deed", "deed ", "deed 1", "way 1", "ways", "Way", "way ", " way", "cells 5",
    "cells", "begin 0", "begin", "step", "pay", "pay 0", "pay 100", "pay 01", "pay +1", "pay -1", "pay 1 ", " pay 1",
    "pay  1", "pay 1 1", "pay one", "pay 1.0", "pay 1_0", "pay 0x1", "pay\t1", "pay 1\r", "pay\u00a01", "pay \u0661",
    "pay \u00b2", "pay 1" + "0" * 5000, "pay " + "9" * 20000, "pay 0000000001", "pay 00", "toll 0 0 4 6 7 7",
    "toll 0 by", "toll by 0 4 6 7 7", "toll 0 by 0 4 6 7", "toll 0 by 0 4 6 7 7 7", "toll 0 by 0 4 6 7 100",
    "toll 0 by 0 4 6 7 -1", "toll 1 by 0 4 6 7 7", "toll 00 by 0 4 6 7 7", "toll 0 by by 0 4 6 7 7",
    "toll 0 By 0 4 6 7 7", "toll 0  by 0 4 6 7 7", "toll 0 by 0  4 6 7 7",
    "toll 0 by 0 4 6 7 07", "toll 0 by 0 4 6 7 7 ", "toll 0 0 by 0 4 6 7 7", "toll", "toll 0", "by", "set 0 5",
    "set 1 0", "set 0 -1", "set 0", "set 0 0 0", "set", "set 0 00", "add 0 0", "add 0 5", "add 1 1", "add 0",
    "take 0 0", "take 0 5", "take 1 1", "pour 0 0", "pour 0 1", "pour 1 0", "pour 0", "only 0 0 5", "only 0 2 1",
    "only 0 0", "only 1 0 0", "only 0 0 1 pay 1", "when 0 0 1", "when 0 2 1 pay 1", "when 0 0 5 pay 1",
    "when 1 0 0 pay 1", "when 0 0 1 only 0 0 1", "when 0 0 1 pay 0", "when 0 0 1  pay 1", "when 0 0 pay 1",
    "when 0 0 1 when 0 0 1", "when 0 0 1 when 0 0 1 only 0 0 1", "when 0 0 1 when 0 0 1 when 0 0 1 pay 1", "when",
    "when 0 0 1 deed", "when 0 0 1 way", "when 0 0 1 by", "when pay 1",
    "when 0 0 1 " * 2600 + "pay 1", "when 0 0 1 " * 100, "x" * 20000, "pay 1 " * 4000, "0", "1 2 3", "#", "pay 1;",
    "pay(1)",
)

RIGHT_LINES = (
    "pay 1", "pay 99", "toll 0 by 0 4 6 7 7", "toll 0 by 99 0 0 0 99", "set 0 4", "set 0 0", "add 0 1", "add 0 4",
    "take 0 4", "only 0 0 4", "only 0 2 2", "when 0 0 4 pay 99", "when 0 4 4 toll 0 by 1 2 3 4 5",
    "when 0 0 1 when 0 1 2 take 0 1", "when 0 0 0 when 0 0 0 toll 0 by 0 0 0 0 0", "deed", "way",
)


def house_of(text):
    """The house of a text, or None: it is read somehow, and must be written in the same way then."""
    lines = [line.split(" ") for line in text.split("\n")[:-1]]
    try:
        sizes, begin, deeds = tuple(map(int, lines[0][1:])), tuple(map(int, lines[1][1:])), []
        for words in lines[2:]:
            if words == ["deed"]:
                deeds.append([])
            elif words == ["way"]:
                deeds[-1].append([])
            else:
                deeds[-1][-1].append(step_of(words))
        house = require_house((sizes, begin, tuple(tuple(tuple(way) for way in deed) for deed in deeds)))
    except (ValueError, IndexError, InvalidHouse, RecursionError):
        return None
    return house if format_house(house) == text else None


def step_of(words):
    if words[0] == "toll":
        return "toll", int(words[1]), tuple(map(int, words[3:]))
    if words[0] == "when":
        return ("when",) + tuple(map(int, words[1:4])) + (step_of(words[4:]),)
    return (words[0],) + tuple(map(int, words[1:]))


def goes_on(lines):
    """Tell whether these lines can go on to the text of a house."""
    text = "".join(line + "\n" for line in lines)
    cells = len(lines[0].split(" ")) - 1 if lines else 1
    start = "begin" + " 0" * cells + "\n"
    for rest in ("", "way\n", "deed\nway\n", start + "deed\nway\n", "cells 2\n" + start + "deed\nway\n"):
        if house_of(text + rest) is not None:
            return True
    return False


def wrong_line(text):
    """The line that ParseError keeps; None if the text is that of a house."""
    lines = text.split("\n")[:-1]
    for at in range(len(lines)):
        if not goes_on(lines[:at + 1]):
            return at
    return None if house_of(text) is not None else len(lines)


class TextCase(Case):
    def check_house(self, text, line):
        """The house that is read, or the line of the error; both are known from elsewhere, too."""
        if line is None:
            house = parse_house(text)
            self.assertEqual(require_house(house), house_of(text))
            self.assertEqual(format_house(house), text)
        else:
            with self.assertRaises(ParseError) as caught:
                parse_house(text)
            self.assertIs(type(caught.exception.line), int)
            self.assertEqual(caught.exception.line, line, text[:300])

    def check_as_known(self, text):
        line = wrong_line(text)
        self.check_house(text, line)
        return line

    def check_tariff(self, text, house, expected):
        """expected is a tariff, or the line of the error."""
        if isinstance(expected, tuple):
            self.assertEqual(parse_tariff(text, house), expected)
            self.assertEqual(format_tariff(expected), text)
        else:
            with self.assertRaises(ParseError) as caught:
                parse_tariff(text, house)
            self.assertEqual(caught.exception.line, expected, text[:300])


class HouseTest(TextCase):
    def test_known(self):
        self.assertEqual(format_house(LOG), LOG_TEXT)
        self.assertEqual(parse_house(LOG_TEXT), LOG)
        self.assertEqual(format_house(FULL), FULL_TEXT)
        self.assertEqual(parse_house(FULL_TEXT), FULL)
        self.assertEqual(format_house(((2,), (1,), (((),),))), "cells 2\nbegin 1\ndeed\nway\n")

    def test_written_and_read_back(self):
        houses = NAMED + (COUNTER, FIVE) + tuple(many_houses(131, 200)) + tuple(guarded_houses(131, 50))
        for house in houses + tuple(rich_houses(131, 10, 3)):
            text = format_house(house)
            self.assertIs(type(text), str)
            self.assertEqual(parse_house(text), house)
            self.check_as_known(text)

    def test_the_empty_text_and_texts_that_end_too_early(self):
        for text, line in (
            ("", 0), ("\n", 0), (" ", 0), ("cells 5", 0), ("cells 5\n", 1), ("cells 5\nbegin 0", 1),
            ("cells 5\nbegin 0\n", 2), ("cells 5\nbegin 0\ndeed\n", 3), ("cells 5\nbegin 0\ndeed\nway", 3),
            ("cells 5\nbegin 0\ndeed\nway\n", None), ("cells 5\nbegin 0\ndeed\nway\ndeed\n", 5),
            ("cells 5\nbegin 0\ndeed\nway\npay 1", 4), ("cells 5\nbegin 0\ndeed\nway\n\n", 4),
            ("cells 5\nbegin 0\ndeed\nway\n ", 4), ("cells 5\nbegin 0\ndeed\nway\nx", 4),
        ):
            self.check_house(text, line)
            self.assertEqual(wrong_line(text), line)

    def test_each_beginning_of_a_text(self):
        for text in (LOG_TEXT, FULL_TEXT):
            whole = 0
            for many in range(len(text) + 1):
                whole += self.check_as_known(text[:many]) is None
            self.assertGreater(whole, 3)

    def test_something_behind_the_last_line_end(self):
        for rest in (" ", "x", "pay 1", "way", "\r", "\x0b", "deed", "\u2028"):
            self.check_house(LOG_TEXT + rest, 10)
            self.check_house("cells 9\n" + rest, 0)
            self.check_house("cells 5\nbegin 0\n" + rest, 2)

    def test_other_line_ends(self):
        self.check_house(LOG_TEXT.replace("\n", "\r\n"), 0)
        self.check_house(LOG_TEXT.replace("\n", "\r"), 0)
        for sign in ("\x0b", "\x0c", "\x1c", "\x85", "\u2028"):
            self.check_house(LOG_TEXT.replace("\n", sign), 0)
            self.check_house("cells 5\nbegin 0\ndeed\nway" + sign + "pay 1\n", 3)

    def test_cells(self):
        for words in ("2", "8", "8 3", "3 8", "2 2 2", "2 3 4", "4 3 2", "2 2 6", "5 4", "4 6"):
            begin = " ".join("0" for _ in words.split(" "))
            self.assertIsNone(self.check_as_known(f"cells {words}\nbegin {begin}\ndeed\nway\n"))
        for words in (
            "1", "9", "0", "5 5", "8 4", "2 3 5", "3 3 3", "2 2 2 2", "", "5 ", " 5", "5  3", "05", "+5", "-5", "5.0",
            "five", "5 x", "10", "1 24", "24", "5" + "0" * 6000,
        ):
            self.check_house(f"cells {words}\nbegin 0\ndeed\nway\n", 0)
        for line in ("cell 5", "Cells 5", "cells5", " cells 5", "cells", "", "begin 0", "deed", "5", "cells\t5"):
            self.check_house(line + "\nbegin 0\ndeed\nway\n", 0)

    def test_begin(self):
        for words in ("0", "4"):
            self.check_house(f"cells 5\nbegin {words}\ndeed\nway\n", None)
        for words in ("5", "-1", "", "0 0", "00", "01", "+0", " 0", "0 ", "x", "4" * 5000):
            self.check_house(f"cells 5\nbegin {words}\ndeed\nway\n", 1)
            self.check_house(f"cells 5\nbegin {words}\n", 1)
            self.check_house(f"cells 5\nbegin {words}", 1)
        for line in ("begins 0", "Begin 0", "begin", "", "deed", "cells 5", "0"):
            self.check_house(f"cells 5\n{line}\ndeed\nway\n", 1)
        self.check_house("cells 2 3 4\nbegin 1 2 3\ndeed\nway\n", None)
        for words in ("1 2 4", "1 3 3", "2 2 3", "1 2", "1 2 3 0"):
            self.check_house(f"cells 2 3 4\nbegin {words}\ndeed\nway\n", 1)

    def test_how_many_deeds_ways_and_steps(self):
        start = "cells 5\nbegin 0\n"
        self.check_house(start + "deed\nway\n" * 3, None)
        self.check_house(start + "deed\nway\n" * 4, 8)
        self.check_house(start + "deed\n" + "way\n" * 3, None)
        self.check_house(start + "deed\n" + "way\n" * 4, 6)
        self.check_house(start + "deed\nway\n" + "pay 1\n" * 6, None)
        self.check_house(start + "deed\nway\n" + "pay 1\n" * 7, 10)
        self.check_house(start + "deed\ndeed\nway\n", 3)
        self.check_house(start + "deed\npay 1\n", 3)
        self.check_house(start + "way\n", 2)
        self.check_house(start + "pay 1\n", 2)
        full = start + ("deed\n" + ("way\n" + "pay 1\n" * 6) * 3) * 3
        self.check_house(full, None)
        for line in ("deed", "way", "pay 1", ""):
            self.check_house(full + line + "\n", 68)
            self.check_house(full + line, 68 if line else None)

    def test_odd_lines(self):
        for line in ODD_LINES:
            for at in range(11):
                lines = LOG_TEXT.split("\n")[:-1]
                put_in, instead = lines[:at] + [line] + lines[at:], lines[:at] + [line] + lines[at + 1:]
                for told in (put_in, instead):
                    self.check_as_known("".join(part + "\n" for part in told))
            self.assertEqual(self.check_as_known(f"cells 5\nbegin 0\ndeed\nway\n{line}\n"), 4)

    def test_right_lines(self):
        for line in RIGHT_LINES:
            told = self.check_as_known(f"cells 5\nbegin 0\ndeed\nway\n{line}\n")
            self.assertEqual(told, 5 if line == "deed" else None)
            for at in range(11):
                lines = LOG_TEXT.split("\n")[:-1]
                self.check_as_known("".join(part + "\n" for part in lines[:at] + [line] + lines[at:]))

    def test_lines_left_out_said_twice_and_exchanged(self):
        for text in (LOG_TEXT, FULL_TEXT):
            lines = text.split("\n")[:-1]
            for at in range(len(lines)):
                for other in range(len(lines)):
                    changed = list(lines)
                    changed[at], changed[other] = changed[other], changed[at]
                    moved = list(lines)
                    moved.insert(other, moved.pop(at))
                    for told in (changed, moved, lines[:at] + lines[at + 1:], lines[:at] + [lines[other]] + lines[at:]):
                        self.check_as_known("".join(part + "\n" for part in told))

    def test_changed_signs(self):
        source = random.Random(132)
        signs = "0123456789 \n+-.abdehlnoprtwy\t\r_\u0663"
        for house in [LOG, FULL] + many_houses(132, 40):
            text = format_house(house)
            for _ in range(25):
                at, sign = source.randrange(len(text)), source.choice(signs)
                for told in (text[:at] + sign + text[at:], text[:at] + sign + text[at + 1:], text[:at] + text[at + 1:]):
                    self.check_as_known(told)

    def test_long_texts(self):
        for text, line in (
            ("x" * 20000, 0), ("\n" * 20000, 0), ("cells 5\n" * 3000, 1), (LOG_TEXT + "\n" * 25000, 10),
            (LOG_TEXT * 300, 10), ("cells 5\nbegin 0\n" + "deed\n" * 5000, 3), ("cells " + "2 " * 14000, 0),
            ("cells " + "2 " * 14000 + "\n", 0), (LOG_TEXT + "pay 1\n" * 4000, 14), (LOG_TEXT + "x" * 29000, 10),
            ("cells 5\nbegin " + "0" * 29000 + "\n", 1),
            ("cells 5\nbegin 0\ndeed\nway\ntoll 0 by " + "1 " * 14000 + "\n", 4),
            ("cells 5\nbegin 0\ndeed\nway\n" + "when 0 0 1 " * 2600 + "pay 1\n", 4),
        ):
            self.check_house(text, line)


class TariffTest(TextCase):
    def test_written_and_read_back(self):
        source = random.Random(133)
        for house in NAMED:
            for _ in range(20):
                tariff = some_tariff(source, house)
                self.assertEqual(parse_tariff(format_tariff(tariff), house), tariff)
        for text, house, tariff in (
            ("3 2 by 1\n", LOG, ((3, 2), 1)), ("10 by 3\n", WHEEL, ((10,), 3)), ("0 0 0 by 1\n", ROUND, ((0, 0, 0), 1)),
            ("1000000000 0 by 999999\n", LOG, ((1000000000, 0), 999999)), ("0 1 by 1000000\n", LOG, ((0, 1), 1000000)),
        ):
            self.check_tariff(text, house, tariff)

    def test_lines_that_are_no_tariff(self):
        for line in (
            "", " ", "3 2 by 0", "3 2 by 1000001", "1000000001 0 by 1", "0 1000000001 by 1", "4 2 by 2", "0 0 by 2",
            "3 2 1", "3 by 1", "3 2 1 by 1", "by 1", "3 2 by", "3 2 by 1 ", " 3 2 by 1", "3  2 by 1", "3 2  by 1",
            "3 2 by  1", "3 2 by 01", "03 2 by 1", "3 +2 by 1", "-3 2 by 1", "3 2 by -1", "3 2 by by 1", "3 2 By 1",
            "3 2 by 1 1", "3 2 / 1", "3, 2 by 1", "3 \u0662 by 1", "3 2 by \u00b9", "3 2\tby 1", "3 2 by 1\r",
            "3 x by 1", "x", "1" * 5000 + " 2 by 1", "3 2 by " + "1" * 5000,
            "3 2 by 10000000000", "30000000000 2 by 1", "3.0 2 by 1", "1_0 2 by 1", "None 2 by 1", "True 2 by 1",
            "3 by 2 by 1",
        ):
            self.check_tariff(line + "\n", LOG, 0)
            self.check_tariff(line, LOG, 0)
            self.check_tariff(line + "\n3 2 by 1\n", LOG, 0)

    def test_ends(self):
        for text, line in (
            ("", 0), ("3 2 by 1", 0), ("\n", 0), ("3 2 by 1\n\n", 1), ("3 2 by 1\n3 2 by 1\n", 1), ("3 2 by 1\n ", 1),
            ("3 2 by 1\nx", 1), ("3 2 by 1\n3 2 by 1", 1), ("3 2 by 1\nx\ny\nz\n", 1), ("\n3 2 by 1\n", 0),
            ("3 2 by 1\r\n", 0), ("x" * 30000, 0), ("3 2 by 1\n" * 3000, 1), ("3 " * 10000 + "by 1\n", 0),
            ("3 2 by 1\n" + "\n" * 20000, 1), ("3 2 by 1\u2028", 0),
        ):
            self.check_tariff(text, LOG, line)

    def test_which_house(self):
        self.check_tariff("3 2 by 1\n", WHEEL, 0)
        self.check_tariff("3 2 by 1\n", ROUND, 0)
        self.check_tariff("3 2 1 by 1\n", ROUND, ((3, 2, 1), 1))
        self.check_tariff("3 by 1\n", WHEEL, ((3,), 1))

    def test_each_is_a_tariff_of_the_house(self):
        source = random.Random(134)
        told = {True: 0, False: 0}
        for _ in range(300):
            text = f"{source.randrange(7)} {source.randrange(7)} by {source.randrange(7)}\n"
            try:
                tariff = parse_tariff(text, LOG)
            except ParseError as error:
                self.assertEqual(error.line, 0)
                told[False] += 1
            else:
                self.assertIs(require_tariff(LOG, tariff), tariff)
                self.assertEqual(format_tariff(tariff), text)
                told[True] += 1
        self.assertGreater(min(told.values()), 50)


class CallsTest(TextCase):
    def test_calls(self):
        for house in (LOG, FULL, LARGE, COUNTER):
            text = self.check_calls(format_house, [("house", house)])
            self.assertEqual(self.check_calls(parse_house, [("text", text)]), house)
        tariff = ((3, 2), 1)
        text = self.check_calls(format_tariff, [("tariff", tariff)])
        self.assertEqual(self.check_calls(parse_tariff, [("text", text), ("house", LOG)]), tariff)


if __name__ == "__main__":
    unittest.main()
