"""Points 6 and 18 to 36: terminals beside a second reading of the document, tests/model.py."""

import itertools
import random
import unittest

from tests.model import Model
from tests.terminals import CSI, OTHER_OFF, OTHER_ON, SET, at, coded, drawn_bytes, drawn_text, new

WIDE = "\u4e2d"
RED = CSI + "31m"
GREEN = CSI + "32m"
PLAIN_AGAIN = CSI + "m"

# What changes cells, to be done at each place of each screen.
EDITS = [CSI + count + byte for byte in "@PX" for count in ("", "2", "3", "9999")] \
    + [CSI + part + byte for byte in "JK" for part in ("", "1", "2", "3", "4")] \
    + ["x", WIDE, CSI + "4hx", CSI + "4h" + WIDE, SET + "7l" + WIDE, SET + "7l" + CSI + "4h" + WIDE]

# What moves or removes rows.
ROW_EDITS = [CSI + count + byte for byte in "LMST" for count in ("", "0", "2", "9999")] \
    + ["\n", "\x1bD", "\x1bE", "\x1bM", "x", "xyz" + WIDE, WIDE]


class Both:
    """A terminal and its model, which are told the same."""

    def __init__(self, case, width, height, limit=100):
        self.case = case
        self.terminal = new(width, height, limit=limit)
        self.model = Model(width, height, limit)
        self.log = [(width, height, limit)]

    def feed(self, text):
        data = coded(text) if isinstance(text, str) else text
        self.terminal.feed(data)
        self.model.feed(data)
        self.log.append(text)
        return self

    def resize(self, width, height):
        self.terminal.resize(width, height)
        self.model.resize(width, height)
        self.log.append((width, height))
        return self

    def check(self):
        self.case.assertEqual(self.terminal.state(), self.model.state(), self.log)
        self.case.assertEqual(self.terminal.text(), self.model.text(), self.log)
        self.case.assertEqual(self.terminal.picture().rows, self.model.picture_rows(), self.log)
        self.case.assertEqual(self.terminal.resting(), self.model.parser.resting(), self.log)

    def check_answers(self):
        self.case.assertEqual(self.terminal.answers(), self.model.answers(), self.log)


class EditTest(unittest.TestCase):
    ROWS = [
        "abcdef", "a" + RED + WIDE + PLAIN_AGAIN + "bcd", RED + WIDE + GREEN + WIDE + PLAIN_AGAIN + "ab",
        RED + WIDE + GREEN + WIDE + PLAIN_AGAIN + WIDE, "ab" + RED + WIDE + GREEN + WIDE, "abcde" + WIDE,
        "abc" + RED + WIDE + PLAIN_AGAIN + WIDE + "x", "abcdefg", "ab" + RED + WIDE + GREEN + WIDE + "xy",
        "a" + RED + WIDE + WIDE + GREEN + WIDE, "", " ", RED + "      x",
    ]

    def test_each_edit_at_each_column(self):
        for row, column, edit in itertools.product(self.ROWS, range(6), EDITS):
            Both(self, 6, 3).feed("q\r\n" + row + PLAIN_AGAIN + at(1, column) + edit).check()

    def test_two_edits(self):
        for row in self.ROWS[:9]:
            for column, edit, other in itertools.product(range(0, 6, 2), EDITS[:14], EDITS[:14:3]):
                text = row + PLAIN_AGAIN + at(0, column) + edit + at(0, (column + 3) % 6) + other
                Both(self, 6, 2).feed(text).check()

    def test_where_the_cursor_waits(self):
        for row, edit in itertools.product(self.ROWS, EDITS):
            Both(self, 6, 2).feed(row + edit).check()

    def test_the_least_width(self):
        for row, column, edit in itertools.product(["ab", WIDE, "a" + WIDE, "abc", WIDE + "a", WIDE * 3], (0, 1), EDITS):
            for height in (1, 2):
                Both(self, 2, height).feed(row + at(0, column) + edit).check()

    def test_wide_rows(self):
        row = ("ab" + WIDE) * 40
        for column, edit in itertools.product((0, 3, 80, 117, 118, 119), EDITS):
            Both(self, 120, 2).feed(row + at(0, column) + edit).check()

    def test_on_the_other_screen(self):
        for row, column, edit in itertools.product(self.ROWS, (0, 3, 5), EDITS):
            Both(self, 6, 2).feed("x\r\ny\r\nz" + OTHER_ON + row + at(0, column) + edit + OTHER_OFF).check()


class RowEditTest(unittest.TestCase):
    def test_each_edit_in_each_row(self):
        regions = ["", CSI + "1;3r", CSI + "2;4r", CSI + "3;5r"]
        starts = ["aabbccddeeff", "aabbccddeeff" + CSI + "2S", "a" + WIDE + WIDE + "b" + WIDE + "cddee"]
        for start, region, row, edit in itertools.product(starts, regions, range(5), ROW_EDITS):
            for other, limit in ((OTHER_ON + start, 100), ("", 100), ("", 1), ("", 0)):
                Both(self, 2, 5, limit).feed(start + other + region + at(row, 1) + edit).check()

    def test_where_the_cursor_waits(self):
        for row, edit in itertools.product(range(4), ROW_EDITS):
            Both(self, 3, 4).feed("abcdefghijkl" + CSI + "2;3r" + at(row, 0) + "xyz" + edit).check()

    def test_one_row(self):
        for edit, limit in itertools.product(ROW_EDITS, (0, 1, 100)):
            Both(self, 3, 1, limit).feed("abcdefg" + edit).check()
            Both(self, 3, 1, limit).feed("abcdefg" + OTHER_ON + "xyz" + edit).check()

    def test_many_rows(self):
        for edit in ROW_EDITS:
            Both(self, 3, 130).feed("abcdefg\r\n" * 50 + CSI + "20;120r" + at(60, 1) + edit).check()


class ResizeTest(unittest.TestCase):
    STARTS = [
        "", "ab", "abcdef\r\nxy", "abcdefghijklmnop", "ab\r\n\r\ncd\r\n", "abcde" + WIDE + WIDE + "f", WIDE * 7,
        "a" + WIDE * 7, "abc" + at(3, 4), "a  b   c" + RED + "   ", "abcdefgh" + CSI + "H", "ab" + at(1, 5),
        "a\r\nb\r\nc\r\nd\r\ne\r\nf" + at(1, 1), "abcde" + WIDE + at(0, 5), "abcdefgh\x1b7" + at(0, 3),
        CSI + "2;3r" + SET + "6habcdefghijk", "abc" + RED + "\x1b7" + at(3, 5) + "x\x1b7" + at(0, 0),
        "abcdef", "abcdefg" + at(0, 0) + CSI + "2X" + "x", "abcd" + WIDE + "gh" + at(0, 4) + "  ",
    ]
    SIZES = [(2, 1), (2, 9), (3, 4), (5, 4), (6, 2), (6, 4), (6, 9), (7, 4), (9, 1), (20, 3), (120, 4), (6, 120)]

    def test_each_size(self):
        for start, size, limit in itertools.product(self.STARTS, self.SIZES, (100, 2, 0)):
            both = Both(self, 6, 4, limit).feed(start).resize(*size)
            both.check()
            both.resize(6, 4).feed("xy" + WIDE).check()

    def test_each_size_with_the_other_screen(self):
        for start, size in itertools.product(self.STARTS, self.SIZES):
            for other in ("", "ab" + WIDE + WIDE + "cdefg\x1b7" + at(3, 5), at(3, 5) + "x\x1b7"):
                both = Both(self, 6, 4, 3).feed(start + OTHER_ON + other).resize(*size)
                both.check()
                both.feed(OTHER_OFF).check()

    def test_two_sizes(self):
        for start, size, other in itertools.product(self.STARTS, self.SIZES[:9], self.SIZES[:9]):
            Both(self, 6, 4).feed(start).resize(*size).resize(*other).check()


class DrawnTest(unittest.TestCase):
    SIZES = [(2, 1), (2, 3), (3, 2), (4, 4), (5, 1), (6, 3), (9, 5), (17, 6)]

    def test_what_programs_write(self):
        for seed in range(240):
            width, height = self.SIZES[seed % 8]
            both = Both(self, width, height, (100, 0, 2, 1)[seed // 8 % 4])
            for text in drawn_text(seed + 7000, width, height, 40):
                both.feed(text).check()
            both.check_answers()

    def test_with_resizing(self):
        for seed in range(160):
            source = random.Random(seed)
            width, height = source.choice(self.SIZES)
            both = Both(self, width, height, source.choice((100, 0, 2, 5)))
            for text in drawn_text(seed + 9000, width, height, 40):
                both.feed(text)
                if source.randrange(4) == 0:
                    both.resize(*source.choice(self.SIZES)).check()
            both.check()
            both.check_answers()

    def test_bytes_of_any_kind(self):
        for seed in range(60):
            both = Both(self, 7, 4)
            for part in range(5):
                both.feed(drawn_bytes(seed * 10 + part, 120)).check()
            both.check_answers()

    def test_wide_and_high_terminals(self):
        for seed, (width, height) in enumerate([(130, 4), (4, 130), (101, 101)]):
            both = Both(self, width, height)
            for text in drawn_text(seed + 80, width, height, 60):
                both.feed(text)
            both.check()
            both.resize(height, width).check()


if __name__ == "__main__":
    unittest.main()
