"""Texts of formats."""

import random
import re
import unittest

from amidread.errors import BadFormat, InvalidText
from amidread.formats import Format
from tests.helpers import CODE, ITEMS, ODD_VALUES, SWAP, error_of, random_formats, unchanged_by

ITEMS_TEXT = "letters ab\nstates 2\n0 a 0 stop\n0 b 1\n1 a 1\n1 b 0 item"
NUMBER = "(0|[1-9][0-9]*)"


def expected_line(text):
    """The number of InvalidText, or None for the text of a format; asked in other words than the program does."""
    lines = text.split("\n")
    for at, line in enumerate(lines):
        form = ("letters [a-z]{2,5}", "states [1-9][0-9]*", f"{NUMBER} [a-z] {NUMBER}( [a-z]{{1,8}})?")[min(at, 2)]
        good = re.fullmatch(form, line)
        if not good or (at == 0 and sorted(set(line[8:])) != list(line[8:])):
            return at
    try:
        arrows = [(line.split(" ") + [""])[:4] for line in lines[2:]]
        states = int(lines[1][7:])
        Format(lines[0][8:], states, tuple((int(row[0]), row[1], int(row[2]), row[3]) for row in arrows))
    except (BadFormat, IndexError):
        return len(lines)
    return None


class Texts(unittest.TestCase):
    def refused(self, text, line):
        error = error_of(Format.read, text)
        self.assertIs(type(error), InvalidText, text)
        self.assertIs(type(error.line), int)
        self.assertEqual(error.line, line, text)

    def test_example(self):
        self.assertEqual(ITEMS.text, ITEMS_TEXT)
        self.assertEqual(Format.read(ITEMS_TEXT), ITEMS)
        self.assertEqual(Format.read(text=ITEMS_TEXT), ITEMS)

    def test_there_and_back(self):
        for form in [CODE, SWAP, CODE | ITEMS, ITEMS.backward()] + random_formats(21, 60, letters="xyz", states=12,
                                                                                  arrows=40):
            self.assertEqual(Format.read(form.text), form)

    def test_long_texts(self):
        chance = random.Random(22)
        records = tuple(("".join(chance.choice("abcde") for _ in range(400)), "word") for _ in range(200))
        form = Format.of("abcde", records)
        self.assertEqual(Format.read(form.text), form)
        lines = form.text.split("\n")
        self.refused(form.text + "\n", len(lines))
        self.refused("\n".join(lines[:-1]), len(lines) - 1)

    def test_no_strings(self):
        for thing in ODD_VALUES:
            if not isinstance(thing, str):
                self.refused(thing, 0)
            self.assertTrue(unchanged_by(Format.read, thing))
        self.refused([ITEMS_TEXT], 0)
        self.refused(ITEMS_TEXT.encode(), 0)

    def test_first_line(self):
        for line in ("", "letters", "letters ", "letters a", "letters abcdef", "letters ba", "letters aa", " letters ab",
                     "letters  ab", "letters ab ", "letters a b", "Letters ab", "letter ab", "letters aB", "letters ab1",
                     "letters\tab", "states 2", "ab", "lettersab", "letters ab\r", "letters AB", "letters\nab"):
            self.refused(line, 0)
            self.refused(line + "\nstates 0\nxx", 0)
            self.refused(ITEMS_TEXT.replace("letters ab", line), 0)

    def test_second_line(self):
        for line in ("", "states", "states ", "states 0", "states 02", "states 00", "states -2", "states +2",
                     "states 2.0", "states two", " states 2", "states  2", "states 2 ", "states 2 2", "state 2",
                     "States 2", "2", "states 1_0", "states 0" + "1" * 40, "states 2a", "states2", "0 a 0 stop"):
            self.refused("letters ab\n" + line, 1)
            self.refused("letters ab\n" + line + "\n", 1)
            self.refused(ITEMS_TEXT.replace("states 2", line), 1)

    def test_arrow_lines(self):
        wrong = ("", " ", "0", "0 a", "0 b 1 ", " 0 b 1", "0  b 1", "0 b  1", "0 b 0  x", "0 b 0 x ", "00 b 1", "0 b 01",
                 "01 b 1", "-1 b 1", "+0 b 1", "0 B 1", "0 ab 1", "0  1", "b 0 1", "0 1 b", "0 b 0 X", "0 b 0 x1",
                 "0 b 0 abcdefghi", "0 b 0 x y", "0 b 0 x 0", "0 b 1.", "0\tb 1", "0 b x", "x b 0", "0b1", "0 b 1\r",
                 "0 \n b 1", "1" * 40 + "a b 1")
        for line in wrong:
            self.refused("letters ab\nstates 2\n0 a 0 stop\n" + line, 3)
            self.refused("letters ab\nstates 2\n" + line + "\n0 a 0 stop\n\n", 2)
            self.refused(ITEMS_TEXT.replace("0 b 1", line), 3)

    def test_blanks_at_any_place(self):
        for at in range(len(ITEMS_TEXT) + 1):
            text = ITEMS_TEXT[:at] + " " + ITEMS_TEXT[at:]
            self.refused(text, expected_line(text))

    def test_line_feeds_at_any_place(self):
        for at in range(len(ITEMS_TEXT) + 1):
            text = ITEMS_TEXT[:at] + "\n" + ITEMS_TEXT[at:]
            self.refused(text, expected_line(text))
        self.refused(ITEMS_TEXT + "\n", 6)
        self.refused("\n" + ITEMS_TEXT, 0)
        self.refused(ITEMS_TEXT.replace("\n", "\n\n"), 1)

    def test_too_few_lines(self):
        self.refused("", 0)
        self.refused("letters ab", 1)
        self.refused("letters ab\n", 1)
        self.refused("letters ab\nstates 1", 2)

    def test_lines_that_do_not_fit(self):
        head = "letters ab\nstates "
        for rest in ("2\n0 b 1\n0 a 0 stop\n1 a 1\n1 b 0 item", "3" + ITEMS_TEXT[19:], "1" + ITEMS_TEXT[19:],
                     "1\n0 c 0 x", "1\n0 z 0 x", "1\n0 a 0", "1\n0 a 0 x\n0 a 0 x", "1\n0 b 0 x\n0 a 0 x",
                     "2\n0 a 1 x\n1 a 0 x", "1\n0 a 1\n1 a 0 x", "1\n1 a 0 x", "2\n0 a 1", "1" * 40 + "\n0 a 0 x",
                     "1\n" + "1" * 40 + " a 0 x", "1\n0 a " + "1" * 40, "1\n0 a " + "1" * 40 + " abcdefgh"):
            self.refused(head + rest, rest.count("\n") + 2)

    def test_numbers_of_any_size(self):
        for size in (40, 1900, 5000, 20000):
            number = "9" * size
            self.refused("letters ab\nstates " + number + "\n0 a 0 x", 3)
            self.refused("letters ab\nstates 1\n" + number + " a " + number, 3)
            self.refused("letters ab\nstates 1\n0" + number + " a 0 x", 2)
            self.refused("letters ab\nstates " + number + "9\n0 a " + number + "\n" + number + " a 0 x", 4)

    def test_odd_strings(self):
        for text in ODD_VALUES:
            if isinstance(text, str):
                self.refused(text, 0)
                self.refused("letters ab\n" + text, 1)
                self.refused("letters ab\nstates 2\n" + text, 2)

    def test_random_changes(self):
        chance = random.Random(23)
        for form in random_formats(24, 300):
            text = form.text
            for _ in range(chance.randint(1, 3)):
                at = chance.randrange(len(text))
                middle = chance.choice(("", chance.choice("0 1a2bx\nl"), text[at], text[at] + text[at]))
                text = text[:at] + middle + text[at + 1:]
            line = expected_line(text)
            if line is None:
                self.assertEqual(Format.read(text).text, text)
            else:
                self.refused(text, line)

    def test_lines_mixed(self):
        chance = random.Random(25)
        for form in random_formats(26, 100):
            lines = form.text.split("\n")
            chance.shuffle(lines)
            if chance.random() < 0.5:
                lines = sorted(lines[:4]) + lines
            text = "\n".join(lines)
            if text != form.text:
                self.refused(text, expected_line(text))
