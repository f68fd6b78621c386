"""Points 37 and 38: drawing pictures on terminals."""

import itertools
import random
import unittest

from manypanes.drawing import draw
from manypanes.picture import Picture, difference
from manypanes.terminal import Terminal
from tests.terminals import (BLANK, CSI, OTHER_OFF, OTHER_ON, PLAIN, SET, at, check_sound, coded, drawn_bytes,
                             drawn_text, feed, history, lettered, new)

WIDE = "\u4e2d"
SIZES = [(2, 1), (2, 4), (3, 2), (5, 1), (6, 3), (9, 5), (17, 6), (120, 3), (3, 120)]

# What leaves a terminal in states in which drawing might go wrong.
MODES = [
    "", SET + "7l", CSI + "4h", SET + "6h", CSI + "2;3r", CSI + "2;3r" + SET + "6h", SET + "25l",
    CSI + "31;44;1m", "\x1b7", CSI + "3g", CSI + "4h" + SET + "7l" + CSI + "2;4r" + SET + "6h" + CSI + "7m",
    OTHER_ON, OTHER_ON + CSI + "1;2r" + CSI + "4h",
]

TEXTS = [
    "", "abcdefgh", ("ab" + WIDE) * 8, WIDE * 9, "a" + WIDE * 9, "x\r\ny\r\nz\r\n" * 5, CSI + "31mred" + CSI + "4;7mmore",
    "abcde" + WIDE, "abcdef", at(1, 0) + "abcdef" + at(1, 4) + WIDE,
]


def random_cell(source):
    """Returns a character and a style of any kind."""
    point = source.choice([32, 97, 126, 160, 233, 0x7ff, 0x800, 0x4e2d, 0xac00, 0xfffd, 0x10000, 0x1f600, 0x10ffff])
    style = source.choice([PLAIN, PLAIN, (source.randrange(-1, 256), source.randrange(-1, 256), source.randrange(16))])
    return point, style


def random_row(source, width):
    cells = []
    while len(cells) < width:
        point, style = random_cell(source)
        if not is_wide_point(point):
            cells.append((point, style))
        elif len(cells) < width - 1:
            cells += [(point, style), (0, style)]
    return cells


def is_wide_point(point):
    return point in (0x4e2d, 0xac00, 0x1f600)


def random_picture(source, width, height):
    """Returns a picture of any kind that the interface allows."""
    visible = source.random() < 0.7
    cursor = (source.randrange(height), source.randrange(width)) if visible else (0, 0)
    return Picture(width, height, [random_row(source, width) for _ in range(height)], cursor, visible)


def copied(picture, **changes):
    values = {"rows": picture.rows, "cursor": picture.cursor, "visible": picture.visible}
    values.update(changes)
    return Picture(picture.width, picture.height, values["rows"], values["cursor"], values["visible"])


class DrawCase(unittest.TestCase):
    def check(self, terminal, picture, limit=100):
        """Checks all that point 37 says, and returns the bytes; the terminal reads them."""
        before = terminal.state()
        shown = terminal.picture()
        wanted = copied(picture)
        data = draw(terminal, picture)
        self.assertEqual(terminal.state(), before)
        self.assertEqual(picture, wanted)
        self.assertIs(type(data), list)
        self.assertTrue(all(type(byte) is int and 0 <= byte <= 255 for byte in data))
        if shown == picture:
            self.assertEqual(data, [])
            return data
        self.assertGreater(len(data), 0)
        self.assertLessEqual(len(data), 28 + 44 * difference(shown, picture))
        terminal.feed(data)
        after = terminal.state()
        self.assertEqual(terminal.picture(), picture)
        self.assertEqual(after[5], before[5])
        self.assertEqual(after[8], (0, picture.height - 1))
        self.assertEqual(after[9][1:3], (False, False))
        self.assertTrue(terminal.resting())
        self.assertEqual(terminal.answers(), [])
        check_sound(terminal, limit, self)
        self.assertEqual(draw(terminal, picture), [])
        return data


class PictureTest(DrawCase):
    def test_the_terminals_own_picture(self):
        for text, modes, (width, height) in itertools.product(TEXTS, MODES, SIZES):
            terminal = new(width, height, text + modes)
            self.assertEqual(draw(terminal, terminal.picture()), [])

    def test_the_picture_of_a_terminal_that_read_the_same(self):
        first = new(6, 3, "ab" + WIDE)
        self.assertEqual(draw(first, new(6, 3, "ab" + WIDE).picture()), [])
        # A gap counts as the blank that is shown for it.
        self.assertEqual(draw(new(3, 2, "ab" + WIDE), new(3, 2, "ab\r\n" + WIDE).picture()), [])

    def test_the_picture_of_another_terminal(self):
        for (text, modes), other in itertools.product(itertools.product(TEXTS, MODES), TEXTS):
            for width, height in ((2, 1), (6, 4), (7, 3)):
                self.check(new(width, height, text + modes), new(width, height, other).picture())

    def test_the_same_terminal_after_few_bytes(self):
        for text, modes in itertools.product(TEXTS, MODES):
            for more in ("x", "\n", WIDE, CSI + "2D", CSI + "K", CSI + "P", CSI + "@", CSI + "7mx", OTHER_OFF, SET + "25l"):
                later = new(6, 4, text + modes + more)
                self.check(new(6, 4, text + modes), later.picture())

    def test_a_moved_cursor(self):
        for text, modes in itertools.product(TEXTS, MODES):
            for cursor in ((0, 0), (3, 5), (0, 5), (2, 1)):
                terminal = new(6, 4, text + modes)
                data = self.check(terminal, copied(terminal.picture(), cursor=cursor, visible=True))
                self.assertLessEqual(len(data), 28)

    def test_a_moved_cursor_far_away(self):
        terminal = Terminal(400, 200)
        feed(terminal, CSI + "4h" + CSI + "2;9r" + SET + "6h" + SET + "25l")
        picture = copied(terminal.picture(), cursor=(199, 399), visible=True)
        self.assertLessEqual(len(self.check(terminal, picture)), 28)
        self.assertEqual(terminal.state()[6][:2], (199, 399))

    def test_a_hidden_cursor(self):
        for text, modes in itertools.product(TEXTS, MODES):
            terminal = new(6, 4, text + modes)
            picture = copied(terminal.picture(), cursor=(0, 0), visible=False)
            self.assertLessEqual(len(self.check(terminal, picture)), 28)
            self.assertIs(terminal.state()[9][3], False)

    def test_a_hidden_cursor_and_cells(self):
        for text, modes in itertools.product(TEXTS, MODES):
            terminal = new(6, 4, text + modes)
            self.check(terminal, copied(new(6, 4, "abc" + SET + "25l").picture()))

    def test_one_cell_at_each_place(self):
        for modes in MODES:
            for row, column in itertools.product(range(4), range(6)):
                terminal = new(6, 4, "abcdef" * 4 + modes)
                rows = terminal.picture().rows
                rows[row][column] = (0x10ffff, (255, 254, 15))
                data = self.check(terminal, copied(terminal.picture(), rows=rows))
                self.assertLessEqual(len(data), 28 + 44)

    def test_one_cell_of_a_large_terminal(self):
        for row, column in ((0, 0), (199, 399), (150, 200)):
            terminal = Terminal(400, 200, limit=0)
            rows = terminal.picture().rows
            rows[row][column] = (0x10ffff, (255, 254, 15))
            self.check(terminal, copied(terminal.picture(), rows=rows, cursor=(199, 398)), 0)

    def test_all_cells_with_the_longest_bytes(self):
        source = random.Random(1)
        for width, height in ((110, 3), (3, 120), (2, 1)):
            terminal = Terminal(width, height)
            rows = [[(0x10ffff - source.randrange(9), (255 - column % 2, 254, 15)) for column in range(width)]
                    for _ in range(height)]
            self.check(terminal, Picture(width, height, rows, (height - 1, width - 1), True))

    def test_points_at_the_edges(self):
        points = [32, 126, 128, 159, 160, 0x7ff, 0x800, 0xd7ff, 0xe000, 0xffff, 0x10000, 0x10ffff, 65533]
        terminal = Terminal(len(points), 1)
        for style in (PLAIN, (0, 0, 0), (255, 255, 15), (7, 8, 1), (-1, 16, 2), (15, -1, 4), (100, 9, 8)):
            rows = [[(point, style) for point in points]]
            self.check(terminal, Picture(len(points), 1, rows, (0, 0), True))

    def test_each_style(self):
        terminal = Terminal(4, 4)
        for colour, marks in itertools.product((-1, 0, 7, 8, 15, 16, 99, 100, 255), range(16)):
            rows = [[(97, (colour, -1, marks)), (98, (-1, colour, marks)), (99, (colour, 3, marks)), (32, PLAIN)]] * 4
            self.check(terminal, Picture(4, 4, rows, (0, 3), True))


class WideTest(DrawCase):
    ROWS = ["abcdef", WIDE + "abcd", "a" + WIDE + "bcd", "abcd" + WIDE, WIDE * 3, "a" + WIDE * 2 + "b", "", "abcde",
            CSI + "31m" + WIDE + CSI + "m" + WIDE + CSI + "32m" + WIDE, CSI + "31ma" + WIDE + WIDE + "b"]

    def test_wide_characters_at_each_place(self):
        for first, second, modes in itertools.product(self.ROWS, self.ROWS, MODES):
            terminal = new(6, 3, "q\r\n" + first + modes)
            self.check(terminal, new(6, 3, "q\r\n" + second).picture())

    def test_halves(self):
        for first, column, second in itertools.product(self.ROWS, range(6), self.ROWS):
            terminal = new(6, 1, first + at(0, column) + "x")
            self.check(terminal, new(6, 1, second).picture())

    def test_gaps(self):
        for modes in MODES:
            terminal = new(3, 4, "ab" + WIDE + "c" + WIDE + modes)
            for other in ("", "ab" + WIDE, "xyz" * 4, WIDE * 4, "ab\r\n" + WIDE + "cd"):
                self.check(terminal, new(3, 4, other).picture())

    def test_the_least_width(self):
        for first, second in itertools.product(["", "a", "ab", WIDE, "a" + WIDE, "b"], repeat=2):
            for height, modes in itertools.product((1, 2, 3), MODES):
                self.check(new(2, height, first + modes), new(2, height, second).picture())


class StateTest(DrawCase):
    def test_a_waiting_cursor(self):
        for modes in MODES:
            terminal = new(4, 2, modes + at(1, 0) + "abcd")
            self.check(terminal, new(4, 2, "efghijkl").picture())

    def test_a_full_history(self):
        for limit, modes in itertools.product((0, 1, 5, 100), MODES):
            terminal = new(4, 3, "abcdefgh\r\n" * 40 + modes, limit=limit)
            before = history(terminal)
            for other in ("", "abcdefghijklmnop", WIDE * 20, "x" * 12):
                self.check(terminal, new(4, 3, other).picture(), limit)
                self.assertEqual(history(terminal), before)

    def test_a_last_row_of_the_history_that_is_continued(self):
        terminal = new(4, 2, "abcdefghijkl")
        self.assertEqual(history(terminal), ["abcd+"])
        self.check(terminal, new(4, 2, "12345678").picture())
        self.assertEqual(history(terminal), ["abcd+"])

    def test_the_other_screen_stays_shown(self):
        terminal = new(4, 3, "main" + OTHER_ON + "other")
        self.check(terminal, new(4, 3, "12345").picture())
        self.assertEqual(terminal.state()[2], 1)
        feed(terminal, OTHER_OFF)
        self.assertEqual(lettered(terminal.picture().rows[0]), "main")

    def test_any_state(self):
        for seed in range(500):
            source = random.Random(seed)
            width, height = source.choice(SIZES)
            limit = source.choice((0, 1, 3, 100))
            terminal = new(width, height, "".join(drawn_text(seed, width, height, source.randrange(60))), limit=limit)
            terminal.feed([24])
            terminal.answers()
            self.check(terminal, random_picture(source, width, height), limit)
            other = new(width, height, "".join(drawn_text(seed + 5000, width, height, 20)))
            self.check(terminal, other.picture(), limit)
            self.check(terminal, few_changes(source, terminal.picture()), limit)

    def test_bytes_of_any_kind(self):
        for seed in range(100):
            source = random.Random(seed)
            terminal = new(7, 4)
            terminal.feed(drawn_bytes(seed, 200) + [24])
            terminal.answers()
            self.check(terminal, random_picture(source, 7, 4))


def few_changes(source, picture):
    """Returns a picture in which few characters are others."""
    rows = [list(cells) for cells in picture.rows]
    for _ in range(source.randrange(4)):
        row = rows[source.randrange(picture.height)]
        column = source.randrange(picture.width)
        if row[column][0] != 0 and row[column + 1:column + 2] not in ([(0, row[column][1])],):
            row[column] = (source.randrange(97, 123), source.choice([row[column][1], (4, 5, 6)]))
    return copied(picture, rows=rows)


class RenewingTest(unittest.TestCase):
    def test_the_bytes_that_make_a_terminal_new(self):
        fresh = Terminal(5, 3).state()
        for seed in range(100):
            terminal = new(5, 3, "".join(drawn_text(seed, 5, 3, 20)))
            terminal.feed(drawn_bytes(seed, 50) + [27, 91, 63][:seed % 4])
            terminal.feed([24, 27, 99])
            self.assertEqual(terminal.state(), fresh)
            self.assertTrue(terminal.resting())
            self.assertEqual(terminal.picture().rows, [[BLANK] * 5] * 3)

    def test_drawing_on_a_terminal_that_became_new(self):
        picture = new(5, 3, "ab" + WIDE + CSI + "7mcd").picture()
        for start in (coded("\x1b]0;ab"), coded(CSI + "4h" + CSI + "12;"), [240, 159], coded(OTHER_ON + "xyz" + "\x1b")):
            terminal = Terminal(5, 3)
            data = draw(Terminal(5, 3), picture)
            terminal.feed(start + [24, 27, 99] + data)
            self.assertEqual(terminal.picture(), picture)


if __name__ == "__main__":
    unittest.main()
