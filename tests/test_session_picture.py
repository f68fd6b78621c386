"""Points 51 to 54: the picture of a session."""

import unittest

from manypanes.session import Session
from tests.sessions import BELOW, BESIDE, opened, rows_of, shown, status
from tests.terminals import BLANK, CSI, OTHER_ON, PLAIN, SET, at, coded, new

WIDE = "\u4e2d"
REVERSED = (-1, -1, 8)


class PaneTest(unittest.TestCase):
    def test_size_and_kinds(self):
        for width, height in ((2, 2), (9, 4), (400, 200)):
            picture = Session(width, height).picture()
            self.assertEqual((picture.width, picture.height), (width, height))
            self.assertEqual([len(row) for row in picture.rows], [width] * height)
            self.assertEqual((picture.cursor, picture.visible), ((0, 0), True))

    def test_one_pane(self):
        session = opened(6, 4, "ab" + CSI + "31m" + WIDE + "c\r\n" + CSI + "7mx")
        alone = new(6, 3, "ab" + CSI + "31m" + WIDE + "c\r\n" + CSI + "7mx")
        self.assertEqual(session.picture().rows[:3], alone.picture().rows)
        self.assertEqual(session.picture().cursor, (1, 1))

    def test_gaps_are_blanks(self):
        session = opened(3, 4, "ab" + WIDE)
        self.assertEqual(session.picture().rows[0][2], BLANK)
        self.assertEqual(shown(session)[:2], ["ab ", WIDE + "< "])

    def test_panes_and_borders(self):
        session = opened(9, 6, "one")
        session.divide(1, BESIDE)
        session.divide(2, BELOW)
        session.write(2, coded(CSI + "32mtwo"))
        session.write(3, coded("abcdefgh"))
        self.assertEqual(shown(session), ["one |two ", "    |    ", "    |----", "    |abcd", "    |efgh"])
        rows = session.picture().rows
        self.assertEqual([row[4] for row in rows[:5]], [(124, PLAIN)] * 5)
        self.assertEqual(rows[2][5:], [(45, PLAIN)] * 4)
        self.assertEqual(rows[0][5:8], [(ord(mark), (2, -1, 0)) for mark in "two"])

    def test_borders_of_parts_in_parts(self):
        session = Session(11, 6)
        session.divide(1, BELOW)
        session.divide(1, BESIDE)
        session.divide(2, BESIDE)
        session.divide(2, BESIDE)
        for pane in range(1, 6):
            session.write(pane, coded(str(pane)))
        self.assertEqual(shown(session), ["1    |3    ", "     |     ", "-----------", "2 |5 |4    ", "  |  |     "])

    def test_styles_do_not_reach_the_borders(self):
        session = opened(9, 4, CSI + "44;7m")
        session.divide(1, BESIDE)
        session.write(1, coded("x" * 12))
        self.assertEqual([row[4] for row in session.picture().rows[:3]], [(124, PLAIN)] * 3)

    def test_the_zoomed_pane_alone(self):
        session = opened(9, 4, "one")
        session.divide(1, BESIDE)
        session.write(2, coded("two" + WIDE))
        session.zoom()
        self.assertEqual(shown(session), ["two" + WIDE + "<    ", "         ", "         "])
        session.focus(1)
        self.assertEqual(shown(session), ["one      ", "         ", "         "])

    def test_only_the_current_window(self):
        session = opened(9, 4, "one")
        session.window()
        session.write(2, coded("two"))
        self.assertEqual(shown(session)[0], "two      ")
        session.show(0)
        self.assertEqual(shown(session)[0], "one      ")


class CutTest(unittest.TestCase):
    def wide(self, width, height):
        """Returns a session with three panes beside each other that is then this small."""
        session = Session(20, 6)
        session.divide(1, BESIDE)
        session.divide(2, BESIDE)
        session.attach(width, height)
        return session

    def test_panes_and_borders_outside(self):
        for width, expected in ((8, "ab|cd|ef"), (7, "ab|cd|e"), (6, "ab|cd|"), (5, "ab|cd"), (4, "ab|c"), (3, "ab|"),
                                (2, "ab")):
            session = self.wide(width, 3)
            for pane, text in ((1, "ab"), (2, "cd"), (3, "ef")):
                session.write(pane, coded(text))
            self.assertEqual(shown(session)[0], expected)
            self.assertEqual([len(row) for row in session.picture().rows], [width] * 3)

    def test_rows_outside(self):
        for height, expected in ((8, "1..-2-3"), (7, "1.-2-3"), (6, "1-2-3"), (5, "1-2-"), (4, "1-2"), (3, "1-"), (2, "1")):
            session = Session(3, 8)
            session.divide(1, BELOW)
            session.divide(2, BELOW)
            for pane in (1, 2, 3):
                session.write(pane, coded(str(pane)))
            session.attach(3, height)
            self.assertEqual(len(session.picture().rows), height)
            self.assertEqual("".join(row[0] for row in shown(session)).replace(" ", "."), expected)

    def test_a_wide_character_that_is_cut_in_half(self):
        for width, last in ((7, (32, (1, 2, 4))), (4, (32, (1, 2, 4)))):
            session = self.wide(width, 3)
            for pane in (1, 2, 3):
                session.write(pane, coded(CSI + "31;42;5m" + WIDE * 2))
            row = session.picture().rows[0]
            self.assertEqual(row[-1], last)
            self.assertEqual(row[0:2], [(0x4e2d, (1, 2, 4)), (0, (1, 2, 4))])

    def test_a_wide_character_that_is_cut_behind_others(self):
        session = Session(20, 9)
        session.divide(1, BELOW)
        session.divide(1, BESIDE)
        session.divide(3, BESIDE)
        session.attach(5, 6)
        # The lower pane is as wide as the three panes above it need.
        self.assertEqual(session.places()[-1], (2, 4, 0, 8, 1))
        session.write(2, coded("a" + CSI + "4m" + WIDE + "b" + CSI + "31;42;5m" + WIDE + "c"))
        row = session.picture().rows[4]
        self.assertEqual(row, [(97, PLAIN), (0x4e2d, (-1, -1, 2)), (0, (-1, -1, 2)), (98, (-1, -1, 2)),
                               (32, (1, 2, 6))])

    def test_a_pane_far_below_the_area(self):
        session = Session(20, 12)
        session.divide(1, BELOW)
        session.divide(2, BESIDE)
        session.divide(2, BELOW)
        session.write(3, coded("a\r\nb\r\nc"))
        for height in (6, 5, 4, 3, 2):
            session.attach(20, height)
            self.assertEqual(session.places()[-1], (3, 2, 11, 9, 3))
            self.assertEqual(len(session.picture().rows), height)
        self.assertEqual(shown(session), [" " * 20])

    def test_a_wide_character_that_is_not_cut(self):
        session = self.wide(5, 3)
        session.write(2, coded(WIDE))
        self.assertEqual(shown(session)[0], "  |" + WIDE + "<")

    def test_a_half_that_is_cut_scrolled_back(self):
        session = self.wide(4, 2)
        session.write(2, coded("\u4e2d\r\nx\r\ny"))
        session.back(2, 2)
        self.assertEqual(shown(session), ["  | "])

    def test_a_cursor_outside(self):
        session = self.wide(4, 3)
        for pane, place in ((1, (1, 1)), (2, (0, 3)), (2, (1, 3))):
            session.focus(pane)
            session.write(pane, coded(at(place[0], place[1] - (3 if pane == 2 else 0))))
            self.assertEqual((session.picture().cursor, session.picture().visible), (place, True))
        session.write(2, coded(at(0, 1)))
        self.assertEqual((session.picture().cursor, session.picture().visible), ((0, 0), False))
        session.focus(3)
        self.assertEqual((session.picture().cursor, session.picture().visible), ((0, 0), False))
        session.zoom()
        self.assertEqual((session.picture().cursor, session.picture().visible), ((0, 0), True))

    def test_a_cursor_below_the_area(self):
        session = Session(9, 8)
        session.divide(1, BELOW)
        session.divide(2, BELOW)
        session.attach(9, 4)
        session.focus(3)
        self.assertEqual(session.places(), [(1, 0, 0, 9, 1), (2, 2, 0, 9, 1), (3, 4, 0, 9, 1)])
        self.assertEqual((session.picture().cursor, session.picture().visible), ((0, 0), False))
        session.focus(2)
        self.assertEqual((session.picture().cursor, session.picture().visible), ((2, 0), True))
        # Row 3 is the status row, which is not in the area.
        session.refit(1, 9, 5)
        session.focus(3)
        self.assertEqual((session.picture().cursor, session.picture().visible), ((0, 0), False))


class CursorTest(unittest.TestCase):
    def cursor(self, session):
        picture = session.picture()
        return (picture.cursor, picture.visible)

    def test_in_its_box(self):
        session = Session(9, 6)
        session.divide(1, BESIDE)
        session.divide(2, BELOW)
        session.write(3, coded(at(1, 2)))
        session.write(1, coded(at(2, 3)))
        self.assertEqual(self.cursor(session), ((4, 7), True))
        session.focus(1)
        self.assertEqual(self.cursor(session), ((2, 3), True))
        session.focus(2)
        self.assertEqual(self.cursor(session), ((0, 5), True))

    def test_hidden(self):
        session = opened(9, 4, "abc" + SET + "25l")
        self.assertEqual(self.cursor(session), ((0, 0), False))
        session.divide(1, BESIDE)
        self.assertEqual(self.cursor(session), ((0, 5), True))
        session.focus(1)
        self.assertEqual(self.cursor(session), ((0, 0), False))
        session.write(1, coded(SET + "25h"))
        self.assertEqual(self.cursor(session), ((0, 3), True))

    def test_scrolled_back(self):
        session = opened(9, 4, "a\r\nb\r\nc\r\nd")
        self.assertEqual(self.cursor(session), ((2, 1), True))
        session.back(1, 1)
        self.assertEqual(self.cursor(session), ((0, 0), False))
        session.back(1, 0)
        self.assertEqual(self.cursor(session), ((2, 1), True))

    def test_a_number_that_counts_as_0(self):
        session = opened(9, 4, "abc")
        session.back(1, 7)
        self.assertEqual(self.cursor(session), ((0, 3), True))
        session.write(1, coded("\r\n\n\n\n" + OTHER_ON))
        self.assertEqual(self.cursor(session), ((2, 0), True))

    def test_another_pane_that_is_scrolled_back(self):
        session = opened(9, 4, "a\r\nb\r\nc\r\nd")
        session.divide(1, BESIDE)
        session.back(1, 1)
        self.assertEqual(self.cursor(session), ((0, 5), True))

    def test_zoomed(self):
        session = Session(9, 4)
        session.divide(1, BESIDE)
        session.write(2, coded("abc"))
        session.zoom()
        self.assertEqual(self.cursor(session), ((0, 3), True))


class StatusTest(unittest.TestCase):
    def test_style_and_filling(self):
        row = Session(9, 4).picture().rows[3]
        self.assertEqual(row, [(ord(mark), REVERSED) for mark in "[1]      "])

    def test_windows(self):
        session = Session(20, 4)
        session.window()
        session.window()
        for index, expected in ((0, "[1] 2 3"), (1, "1 [2] 3"), (2, "1 2 [3]")):
            session.show(index)
            self.assertEqual(status(session), expected.ljust(20))

    def test_many_windows(self):
        session = Session(40, 4)
        for _ in range(11):
            session.window()
        session.show(9)
        self.assertEqual(status(session), "1 2 3 4 5 6 7 8 9 [10] 11 12            ")

    def test_titles(self):
        session = opened(20, 4, "\x1b]0;a title\x07")
        self.assertEqual(status(session), "[1] a title         ")
        session.divide(1, BESIDE)
        self.assertEqual(status(session), "[1]                 ")
        session.write(2, coded("\x1b]2;second\x1b\\"))
        self.assertEqual(status(session), "[1] second          ")
        session.focus(1)
        self.assertEqual(status(session), "[1] a title         ")
        session.window()
        self.assertEqual(status(session), "1 [2]               ")
        session.write(3, coded("\x1b]0; ~x\x07"))
        self.assertEqual(status(session), "1 [2]  ~x           ")
        session.show(0)
        self.assertEqual(status(session), "[1] 2 a title       ")
        session.write(1, coded("\x1bc"))
        self.assertEqual(status(session), "[1] 2               ")

    def test_cut(self):
        for width in range(2, 14):
            session = opened(width, 3, "\x1b]0;title\x07")
            session.window()
            session.show(0)
            self.assertEqual(status(session), "[1] 2 title  "[:width].ljust(width))
        session = opened(3, 3, "\x1b]0;" + "t" * 64 + "\x07")
        self.assertEqual(status(session), "[1]")

    def test_the_longest_title(self):
        session = opened(68, 3, "\x1b]0;" + "t" * 70 + "\x07")
        self.assertEqual(status(session), "[1] " + "t" * 64)

    def test_zoomed_and_scrolled_back(self):
        session = opened(9, 4, "\x1b]0;abc\x07a\r\nb\r\nc\r\nd")
        session.zoom()
        session.back(1, 1)
        self.assertEqual(status(session), "[1] abc  ")


class ExampleTest(unittest.TestCase):
    def test_rows_of_a_whole_picture(self):
        session = opened(12, 5, "left" + WIDE)
        session.divide(1, BESIDE)
        session.write(2, coded("\x1b]0;t\x07right"))
        self.assertEqual(rows_of(session.picture()),
                         ["left" + WIDE + "<|right", "      |     ", "      |     ", "      |     ", "[1] t       "])
        self.assertEqual(session.picture().cursor, (0, 11))


if __name__ == "__main__":
    unittest.main()
