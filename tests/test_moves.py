"""Points 21, 30 and 32: moves of the cursor, tab columns, the region and the mode origin."""

import unittest

from tests.terminals import CSI, OTHER_ON, SET, at, cursor, feed, new, shown

# A terminal of 6 rows with the region from row 2 to row 4.
WIDTH, HEIGHT, FIRST, LAST = 7, 6, 2, 4
REGION = CSI + "3;5r"
ORIGIN = SET + "6h"

COUNTS = (("", 1), ("0", 1), ("1", 1), ("2", 2), ("5", 5), ("99", 99), ("9999", 9999), (";7", 1), ("2;9", 2))


def start(row, column, waits, region=REGION):
    """Returns a terminal with the cursor at a place."""
    text = "x" if waits else ""
    terminal = new(WIDTH, HEIGHT, region + at(row, column) + text)
    assert cursor(terminal) == (row, column, waits)
    return terminal


def places():
    """Returns places at each edge of the screen and of the region, and beside them."""
    found = [(row, column, False) for row in range(HEIGHT) for column in (0, 1, 3, WIDTH - 2, WIDTH - 1)]
    return found + [(row, WIDTH - 1, True) for row in range(HEIGHT)]


class MoveTest(unittest.TestCase):
    def check(self, byte, expected):
        """Checks that each count leads to the place that `expected` gives."""
        for text, count in COUNTS:
            for row, column, waits in places():
                terminal = start(row, column, waits)
                before = terminal.state()
                feed(terminal, CSI + text + byte)
                then = expected(row, column, count) + (False,)
                self.assertEqual(cursor(terminal), then, (text, byte, row, column))
                self.assertEqual(terminal.state()[3:6] + terminal.state()[7:], before[3:6] + before[7:])

    def test_up(self):
        def up(row, column, count):
            return (max(row - count, FIRST if row >= FIRST else 0), column)

        self.check("A", up)
        self.check("F", lambda row, column, count: (up(row, column, count)[0], 0))

    def test_down(self):
        def down(row, column, count):
            return (min(row + count, LAST if row <= LAST else HEIGHT - 1), column)

        self.check("B", down)
        self.check("E", lambda row, column, count: (down(row, column, count)[0], 0))

    def test_some_ups_and_downs(self):
        for row, then in ((0, 0), (1, 0), (2, 2), (3, 2), (4, 2), (5, 2)):
            self.assertEqual(cursor(feed(start(row, 3, False), CSI + "9A")), (then, 3, False))
        for row, then in ((0, 4), (1, 4), (2, 4), (3, 4), (4, 4), (5, 5)):
            self.assertEqual(cursor(feed(start(row, 3, False), CSI + "9B")), (then, 3, False))

    def test_right_and_left(self):
        self.check("C", lambda row, column, count: (row, min(column + count, WIDTH - 1)))
        self.check("D", lambda row, column, count: (row, max(column - count, 0)))

    def test_to_a_column(self):
        self.check("G", lambda row, column, count: (row, min(count - 1, WIDTH - 1)))

    def test_to_a_row(self):
        self.check("d", lambda row, column, count: (min(count - 1, HEIGHT - 1), column))

    def test_over_wide_characters(self):
        terminal = new(6, 1, "\u4e2d\u4e2d" + CSI + "D")
        self.assertEqual(cursor(terminal), (0, 3, False))
        self.assertEqual(shown(terminal), ["\u4e2d<\u4e2d<  "])

    def test_wide_and_high_terminals(self):
        terminal = new(300, 150, CSI + "120B" + CSI + "250C")
        self.assertEqual(cursor(terminal), (120, 250, False))
        self.assertEqual(cursor(feed(terminal, CSI + "140;299H")), (139, 298, False))
        self.assertEqual(cursor(feed(terminal, CSI + "9999;9999H")), (149, 299, False))

    def test_the_least_terminal(self):
        for byte in "ABCDEFGHIZdf":
            terminal = feed(new(2, 1, "ab"), CSI + "9" + byte)
            self.assertIs(cursor(terminal)[2], False)
            self.assertEqual(cursor(terminal)[0], 0)


class PlaceTest(unittest.TestCase):
    CASES = (
        ("", (0, 0)), (";", (0, 0)), ("1;1", (0, 0)), ("0;0", (0, 0)), ("3", (2, 0)), ("3;", (2, 0)),
        (";4", (0, 3)), ("0;4", (0, 3)), ("6;7", (5, 6)), ("7;8", (5, 6)), ("9999;9999", (5, 6)),
        ("2;3;4", (1, 2)),
    )

    def test_without_origin(self):
        for byte in "Hf":
            for text, then in self.CASES:
                for row, column, waits in places():
                    terminal = feed(start(row, column, waits), CSI + text + byte)
                    self.assertEqual(cursor(terminal), then + (False,), text + byte)

    def test_with_origin(self):
        for byte in "Hf":
            for text, then in self.CASES:
                terminal = feed(start(1, 1, False), ORIGIN + CSI + text + byte)
                self.assertEqual(cursor(terminal), (min(then[0] + FIRST, LAST), then[1], False), text + byte)

    def test_a_row_with_origin(self):
        for text, then in (("", 2), ("0", 2), ("1", 2), ("2", 3), ("3", 4), ("4", 4), ("9999", 4)):
            terminal = feed(start(1, 1, False), ORIGIN + CSI + "C" + CSI + text + "d")
            self.assertEqual(cursor(terminal), (then, 1, False))

    def test_other_moves_with_origin(self):
        terminal = feed(start(0, 3, False), ORIGIN + "\x1b8")
        self.assertEqual(cursor(terminal), (0, 0, False))
        terminal = feed(start(5, 3, False), "\x1b7" + ORIGIN)
        for text, then in ((CSI + "9B", (4, 0)), (CSI + "9A", (2, 0)), (CSI + "4G", (2, 3))):
            self.assertEqual(cursor(feed(terminal, text)), then + (False,))


class TabTest(unittest.TestCase):
    """Bytes 73, 90 and 103, control 9 and escape 72."""

    def test_right(self):
        for column, text, then in (
            (0, "", 8), (0, "0", 8), (0, "1", 8), (0, "2", 16), (0, "3", 24), (0, "4", 29), (0, "9999", 29),
            (7, "", 8), (8, "", 16), (9, "2", 24), (23, "", 24), (24, "", 29), (29, "", 29), (28, "5", 29),
        ):
            self.assertEqual(cursor(new(30, 2, at(1, column) + CSI + text + "I")), (1, then, False), (column, text))

    def test_left(self):
        for column, text, then in (
            (29, "", 24), (29, "0", 24), (29, "2", 16), (29, "3", 8), (29, "4", 0), (29, "9999", 0),
            (24, "", 16), (25, "", 24), (8, "", 0), (9, "", 8), (7, "", 0), (0, "", 0), (0, "3", 0),
        ):
            self.assertEqual(cursor(new(30, 2, at(1, column) + CSI + text + "Z")), (1, then, False), (column, text))

    def test_waiting(self):
        for text, then in (("I", 9), ("Z", 8), ("\t", 9)):
            terminal = new(10, 2, "abcdefghij" + (text if text == "\t" else CSI + text))
            self.assertEqual(cursor(terminal), (0, then, False))

    def test_the_last_column_as_a_tab_column(self):
        terminal = new(9, 1, CSI + "I")
        self.assertEqual(cursor(terminal), (0, 8, False))
        self.assertEqual(cursor(feed(terminal, CSI + "I")), (0, 8, False))
        self.assertEqual(cursor(feed(terminal, CSI + "Z")), (0, 0, False))

    def test_the_first_column_as_a_tab_column(self):
        terminal = new(20, 1, "\x1bH" + at(0, 5))
        self.assertEqual(terminal.state()[10], (0, 8, 16))
        self.assertEqual(cursor(feed(terminal, CSI + "Z")), (0, 0, False))
        self.assertEqual(cursor(feed(terminal, CSI + "Z")), (0, 0, False))

    def test_cleared_one(self):
        for text in ("g", "0g", ";3g"):
            terminal = new(30, 1, at(0, 16) + CSI + text)
            self.assertEqual((terminal.state()[10], cursor(terminal)), ((8, 24), (0, 16, False)), text)

    def test_cleared_where_there_is_none(self):
        self.assertEqual(new(30, 1, at(0, 15) + CSI + "g").state()[10], (8, 16, 24))

    def test_cleared_all(self):
        terminal = new(30, 1, at(0, 3) + "\x1bH" + CSI + "3g")
        self.assertEqual(terminal.state()[10], ())
        self.assertEqual(cursor(feed(terminal, "\t")), (0, 29, False))
        self.assertEqual(cursor(feed(terminal, CSI + "Z")), (0, 0, False))

    def test_clearing_leaves_a_waiting_cursor(self):
        for text in ("g", "3g"):
            self.assertEqual(cursor(new(3, 1, "abc" + CSI + text)), (0, 2, True))

    def test_other_numbers(self):
        for number in (1, 2, 4, 5, 30, 9999):
            terminal = new(30, 1, at(0, 16))
            before = terminal.state()
            self.assertEqual(feed(terminal, f"{CSI}{number}g").state(), before)

    def test_set_again(self):
        terminal = new(30, 1, CSI + "3g" + at(0, 20) + "\x1bH" + at(0, 4) + "\x1bH\x1bH")
        self.assertEqual(terminal.state()[10], (4, 20))

    def test_many(self):
        text = "".join(at(0, column) + "\x1bH" for column in range(300))
        terminal = new(300, 1, text + at(0, 0) + CSI + "200I")
        self.assertEqual(cursor(terminal), (0, 200, False))
        self.assertEqual(cursor(feed(terminal, CSI + "150Z")), (0, 50, False))


class RegionTest(unittest.TestCase):
    """Byte 114."""

    def region(self, text, height=5):
        terminal = new(4, height, at(1, 1) + CSI + text + "r")
        return terminal.state()[8], cursor(terminal)

    def test_set(self):
        for text, region in (
            ("1;5", (0, 4)), ("2;4", (1, 3)), ("4;5", (3, 4)), ("1;2", (0, 1)), ("2", (1, 4)), ("2;", (1, 4)),
            ("2;0", (1, 4)), ("0;3", (0, 2)), (";3", (0, 2)), ("", (0, 4)), ("0;0", (0, 4)), ("2;6", (1, 4)),
            ("2;9999", (1, 4)), ("2;4;1", (1, 3)),
        ):
            self.assertEqual(self.region(text), (region, (0, 0, False)), text)

    def test_not_set(self):
        for text in ("3;3", "4;3", "5;1", "5", "5;5", "5;0", "5;9", "6", "6;9", "9999;9999", "1;1", "0;1", ";1"):
            self.assertEqual(self.region(text), ((0, 4), (1, 1, False)), text)

    def test_not_set_leaves_a_waiting_cursor(self):
        self.assertEqual(cursor(new(3, 2, "abc" + CSI + "2;2r")), (0, 2, True))

    def test_set_with_a_waiting_cursor(self):
        self.assertEqual(cursor(new(3, 2, "abc" + CSI + "r")), (0, 0, False))

    def test_set_with_origin(self):
        terminal = new(4, 5, ORIGIN + CSI + "3;4r")
        self.assertEqual((terminal.state()[8], cursor(terminal)), ((2, 3), (2, 0, False)))

    def test_one_row(self):
        for text in ("", "1;1", "0;0", "1;2"):
            terminal = new(4, 1, "ab" + CSI + text + "r")
            self.assertEqual((terminal.state()[8], cursor(terminal)), ((0, 0), (0, 2, False)), text)

    def test_it_is_that_of_both_screens(self):
        terminal = new(4, 5, CSI + "3;4r" + OTHER_ON)
        self.assertEqual(terminal.state()[8], (2, 3))


class OriginTest(unittest.TestCase):
    def test_on_and_off(self):
        terminal = feed(start(5, 6, True), ORIGIN)
        self.assertEqual((terminal.state()[9], cursor(terminal)), ((True, True, False, True), (FIRST, 0, False)))
        terminal = feed(terminal, CSI + "2;3H" + SET + "6l")
        self.assertEqual((terminal.state()[9], cursor(terminal)), ((True, False, False, True), (0, 0, False)))

    def test_twice(self):
        terminal = feed(start(5, 6, True), ORIGIN + CSI + "2;3H" + ORIGIN)
        self.assertEqual(cursor(terminal), (FIRST, 0, False))


if __name__ == "__main__":
    unittest.main()
