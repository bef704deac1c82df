"""windways.texts: mines and facts as texts, and the line at which a text is wrong."""

import copy
import re
import time
import unittest

from tests.samples import (
    BACKWARD_PAIR, BRIDGE, EMPTY, FULL, JOINED, LINE, NOT_JOINED, PAIR, ROW, TWINS, Numbers, drawn_facts, random_mines,
)
from tests.told import is_mine
from windways.errors import ParseError
from windways.texts import format_facts, format_mine, parse_facts, parse_mine

BRIDGE_TEXT = "places 4\ninlet 0\noutlet 3\nway 0 1\nway 0 2\nway 1 3\nway 2 3\nway 1 2\n"
FACTS_TEXT = "0 above 2\n1 from 2\n7 above 0\n"
# Signs that look like the right ones, or stand beside them.
SIGNS = ("", " ", "  ", "\n", "\n\n", "\r", "\r\n", "\t", "\x0b", "\x0c", "\x1c", "\x85", "\u2028", "\u2029", "\xa0",
         "\ufeff", "+",
         "-", "_", ".", ",", ";", "#", "0", "1", "7", "8", "9", "00", "10", "\u0661", "\uff11", "\u00b2", "a", "A",
         "\x00", "()", "'")


def can_begin_mine(lines):
    """Whether some text of a mine begins with these lines."""
    forms = ("places ([2-8])", "inlet ([0-7])", "outlet ([0-7])") + ("way ([0-7]) ([0-7])",) * 12
    if len(lines) > len(forms):
        return False
    found = [re.fullmatch(form, line, re.ASCII) for form, line in zip(forms, lines)]
    if not all(found):
        return False
    numbers = [tuple(int(number) for number in match.groups()) for match in found]
    places = numbers[0][0] if numbers else 8
    if any(number >= places for row in numbers[1:] for number in row):
        return False
    if len(numbers) > 2 and numbers[1] == numbers[2]:
        return False
    return all(a != b for a, b in numbers[3:])


def can_begin_facts(lines):
    """Whether some text of facts begins with these lines."""
    found = [re.fullmatch("([0-7]) (above|from) ([0-7])", line, re.ASCII) for line in lines]
    return len(lines) <= 12 and all(match and match[1] != match[3] for match in found)


def told_line(text, can_begin, least):
    """The line that ParseError has for a text, or None for a right one."""
    lines = text.split("\n")
    for k in range(len(lines) - 1):
        if not can_begin(lines[:k + 1]):
            return k
    if lines[-1] != "" or len(lines) - 1 < least:
        return text.count("\n")
    return None


class Texts(unittest.TestCase):
    def assert_mine(self, text):
        line = told_line(text, can_begin_mine, 4)
        if line is None:
            mine = parse_mine(text)
            self.assertTrue(is_mine(mine), text)
            self.assertEqual(format_mine(mine), text)
        else:
            with self.assertRaises(ParseError) as caught:
                parse_mine(text)
            self.assertEqual(caught.exception.line, line, text)
        return line

    def assert_facts(self, text):
        line = told_line(text, can_begin_facts, 0)
        if line is None:
            facts = parse_facts(text)
            self.assertIs(type(facts), tuple)
            self.assertEqual(format_facts(facts), text)
        else:
            with self.assertRaises(ParseError) as caught:
                parse_facts(text)
            self.assertEqual(caught.exception.line, line, text)
        return line

    def assert_line(self, parse, text, line):
        with self.assertRaises(ParseError) as caught:
            parse(text)
        self.assertEqual(caught.exception.line, line, text)
        self.assertEqual(line, told_line(text, *((can_begin_mine, 4) if parse is parse_mine else (can_begin_facts, 0))))


def wrong_texts(text, signs):
    """Texts that differ from the text in one sign, one line, or where it ends."""
    lines = text.split("\n")[:-1]
    for k in range(len(text) + 1):
        yield text[:k]
        yield text[k:]
        yield text[:k] + text[k + 1:]
        for sign in signs:
            yield text[:k] + sign + text[k:]
            yield text[:k] + sign + text[k + 1:]
    for k in range(len(lines)):
        for j in range(len(lines)):
            other = list(lines)
            other[j], other[k] = other[k], other[j]
            yield "".join(line + "\n" for line in other)
            yield "".join(line + "\n" for line in lines[:k] + [lines[j]] + lines[k:])
        yield "".join(line + "\n" for line in lines[:k] + lines[k + 1:])
        for line in ("", "way 1 1", "way 3 4", "way 7 0", "place 4", "places 1", "inlet 4", "0 above 0", "1 under 2",
                     "x"):
            yield "".join(row + "\n" for row in lines[:k] + [line] + lines[k:])
            yield "".join(row + "\n" for row in lines[:k] + [line] + lines[k + 1:])


class Mines(Texts):
    def test_the_document(self):
        self.assertEqual(format_mine((3, ((0, 1), (1, 2)), 0, 2)), "places 3\ninlet 0\noutlet 2\nway 0 1\nway 1 2\n")
        self.assert_line(parse_mine, "", 0)
        self.assert_line(parse_mine, "places 1\n", 0)
        self.assert_line(parse_mine, "places 4\ninlet 0\noutlet 3\n", 3)
        self.assert_line(parse_mine, "places 4\ninlet 0\noutlet 3\nway 0 2", 3)

    def test_what_is_written_is_read_back(self):
        mines = JOINED + NOT_JOINED + tuple(mine for mine, _ in random_mines(601, 100))
        for mine in mines:
            text = format_mine(mine=mine)
            self.assertEqual(parse_mine(text=text), mine)
            self.assertIsNone(told_line(text, can_begin_mine, 4))
        self.assertEqual(format_mine(BRIDGE), BRIDGE_TEXT)
        self.assertEqual(parse_mine(BRIDGE_TEXT), BRIDGE)
        self.assertEqual(format_mine(BACKWARD_PAIR), "places 2\ninlet 1\noutlet 0\nway 0 1\n")

    def test_ways_that_are_missing(self):
        self.assertEqual(format_mine(EMPTY), "places 3\ninlet 0\noutlet 2\n")
        self.assert_line(parse_mine, format_mine(EMPTY), 3)

    def test_numbers(self):
        head = "places {}\ninlet {}\noutlet {}\nway {} {}\n"
        for numbers, line in (
            ((2, 0, 1, 0, 1), None), ((8, 7, 0, 6, 7), None), ((9, 0, 1, 0, 1), 0), ((1, 0, 1, 0, 1), 0),
            ((0, 0, 1, 0, 1), 0),
            (("04", 0, 1, 0, 1), 0), (("+4", 0, 1, 0, 1), 0), (("-4", 0, 1, 0, 1), 0), (("10", 0, 1, 0, 1), 0),
            ((4, 4, 1, 0, 1), 1), ((4, "00", 1, 0, 1), 1), ((4, "-0", 1, 0, 1), 1), ((4, 8, 1, 0, 1), 1),
            ((4, 0, 0, 0, 1), 2), ((4, 0, 4, 0, 1), 2), ((4, 3, 3, 0, 1), 2), ((4, 0, "01", 0, 1), 2),
            ((4, 0, 1, 1, 1), 3), ((4, 0, 1, 0, 4), 3), ((4, 0, 1, 4, 0), 3), ((4, 0, 1, 0, "1 "), 3),
            ((4, 0, 1, " 0", 1), 3),
            ((2, 0, 1, 0, 2), 3), ((4, 0, 1, "\u0660", 1), 3), (("\uff14", 0, 1, 0, 1), 0), ((4, 0, 1, 0, "1\r"), 3),
        ):
            text = head.format(*numbers)
            self.assertEqual(self.assert_mine(text), line, text)

    def test_the_first_wrong_line_counts(self):
        lines = BRIDGE_TEXT.split("\n")[:-1]
        for k in range(len(lines)):
            for more in range(k, len(lines)):
                wrong = [line if not k <= j <= more else "nothing" for j, line in enumerate(lines)]
                self.assert_line(parse_mine, "\n".join(wrong) + "\n", k)
                self.assert_line(parse_mine, "\n".join(wrong) + "\nmore", k)
            self.assert_line(parse_mine, "\n".join(lines[:k] + ["nothing"]), k)

    def test_twelve_ways_and_thirteen(self):
        self.assertEqual(len(FULL[1]), 12)
        text = format_mine(FULL)
        self.assertIsNone(self.assert_mine(text))
        for more in ("way 0 1\n", "way 0 1\nway 0 1\n", "x\n", "\n"):
            self.assert_line(parse_mine, text + more, 15)
        for more in ("way 0 1", "x", " "):
            self.assert_line(parse_mine, text + more, 15)

    def test_every_sign_and_line(self):
        wrong = 0
        for text in (format_mine(ROW), format_mine(TWINS), BRIDGE_TEXT):
            for other in wrong_texts(text, SIGNS):
                wrong += self.assert_mine(other) is not None
        self.assertGreater(wrong, 5000)

    def test_drawn_texts(self):
        numbers = Numbers(602)
        words = ("places", "inlet", "outlet", "way", "0", "1", "2", "3", "4", " ", " ", "\n", "\n", "5")
        rows = ("places 3\n", "inlet 0\n", "inlet 1\n", "outlet 2\n", "outlet 1\n", "way 0 1\n", "way 1 2\n",
                "way 2 2\n")
        for _ in range(3000):
            chosen = rows if numbers.below(2) else words
            self.assert_mine("".join(chosen[numbers.below(len(chosen))] for _ in range(numbers.below(9))))
            ways = "".join(rows[5 + numbers.below(3)] for _ in range(numbers.below(4)))
            self.assert_mine(rows[0] + rows[1 + numbers.below(2)] + rows[3 + numbers.below(2)] + ways)

    def test_other_texts(self):
        for text in ("\n", "\n\n", " ", "places", "places \n", "places 4", "places 4\n\n", "PLACES 4\n", "\u0000",
                     "places 4\r\ninlet 0\r\n",
                     BRIDGE_TEXT.replace("\n", "\r\n"), BRIDGE_TEXT.replace("\n", "\r"), BRIDGE_TEXT.upper(),
                     BRIDGE_TEXT * 2,
                     BRIDGE_TEXT + "\n", "\n" + BRIDGE_TEXT, "\ufeff" + BRIDGE_TEXT, BRIDGE_TEXT[:-1],
                     BRIDGE_TEXT[:-1] + " \n",
                     BRIDGE_TEXT + FACTS_TEXT, FACTS_TEXT, "x" * 20000, "\n" * 20000, BRIDGE_TEXT + "way 0 1\n" * 2400):
            self.assertIsNotNone(self.assert_mine(text))


class Facts(Texts):
    def test_the_document(self):
        self.assertEqual(format_facts(((0, 2, 1), (1, 2, 0))), "0 above 2\n1 from 2\n")
        self.assertEqual(format_facts(()), "")
        self.assertEqual(parse_facts(""), ())
        self.assertEqual(parse_facts(FACTS_TEXT), ((0, 2, 1), (1, 2, 0), (7, 0, 1)))

    def test_what_is_written_is_read_back(self):
        for mine, numbers in random_mines(603, 60):
            facts = drawn_facts(mine, numbers, numbers.below(13))
            text = format_facts(facts=facts)
            self.assertEqual(parse_facts(text=text), facts)
        for x in range(8):
            for y in range(8):
                for s in (0, 1):
                    if x != y:
                        self.assertEqual(parse_facts(format_facts(((x, y, s),))), ((x, y, s),))
                    else:
                        self.assert_line(parse_facts, format_facts(((x, y, s),)), 0)

    def test_twelve_facts_and_thirteen(self):
        for many in (11, 12):
            self.assertIsNone(self.assert_facts("0 above 1\n" * many))
        for more in ("0 above 1\n", "1 from 2\n" * 3, "x\n", "\n", "x", "0 above 1"):
            self.assert_line(parse_facts, "0 above 1\n" * 12 + more, 12)
        self.assert_line(parse_facts, "0 above 1\n" * 11 + "0 above 0\n" * 4, 11)

    def test_numbers_and_words(self):
        for line in ("0 above 8", "8 above 0", "0 above 0", "00 above 1", "0 above 01", "+0 above 1", "0  above 1",
                     "0 above  1",
                     " 0 above 1", "0 above 1 ", "0 Above 1", "0 below 1", "0 above", "above 0 1", "0 above 1 2", "0 1",
                     "",
                     "0\tabove\t1", "0 above 1\r", "\u0660 above 1", "0 above \uff11", "0 from -1", "0from1",
                     "0 FROM 1"):
            self.assert_line(parse_facts, line + "\n", 0)
            self.assert_line(parse_facts, "1 from 0\n" + line + "\n3 above 2\n", 1)
            self.assert_line(parse_facts, "1 from 0\n" + (line or " "), 1)

    def test_every_sign_and_line(self):
        wrong = 0
        for text in (FACTS_TEXT, "0 above 1\n", "3 from 2\n0 above 1\n"):
            for other in wrong_texts(text, SIGNS):
                wrong += self.assert_facts(other) is not None
        self.assertGreater(wrong, 3000)

    def test_other_texts(self):
        for text in ("\n", " ", "0 above 1", FACTS_TEXT.replace("\n", "\r\n"), FACTS_TEXT.replace("\n", "\r"),
                     FACTS_TEXT + "\n",
                     "\n" + FACTS_TEXT, "\ufeff" + FACTS_TEXT, FACTS_TEXT[:-1], BRIDGE_TEXT, "x" * 20000, "\n" * 20000,
                     "0 above 1\n" * 2000):
            self.assertIsNotNone(self.assert_facts(text))


class Calls(unittest.TestCase):
    def test_nothing_is_changed_and_texts_are_strings(self):
        facts = ((0, 2, 1), (1, 2, 0))
        before = copy.deepcopy((BRIDGE, facts))
        self.assertIs(type(format_mine(BRIDGE)), str)
        self.assertIs(type(format_facts(facts)), str)
        self.assertEqual((BRIDGE, facts), before)
        self.assertIs(type(parse_mine(BRIDGE_TEXT)[1]), tuple)
        self.assertTrue(all(type(way) is tuple for way in parse_mine(BRIDGE_TEXT)[1]))

    def test_mines_that_are_read_need_not_be_joined(self):
        for mine in NOT_JOINED:
            self.assertEqual(parse_mine(format_mine(mine)), mine)
        self.assertEqual(parse_mine("places 8\ninlet 0\noutlet 1\nway 6 7\n"), (8, ((6, 7),), 0, 1))

    def test_long_texts_take_no_long(self):
        began = time.perf_counter()
        for text in ("a b " * 5000, "0 above 1\n" * 2000, "\n" * 20000, "places 4\n" * 2000, format_mine(LINE) * 100,
                     "1" * 20000):
            for parse in (parse_mine, parse_facts):
                with self.assertRaises(ParseError):
                    parse(text)
        self.assertLess(time.perf_counter() - began, 2)
        self.assertEqual(parse_mine(format_mine(PAIR)), PAIR)


if __name__ == "__main__":
    unittest.main()
