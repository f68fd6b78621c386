"""Points 6 and 30: what erases, inserts and removes cells (bytes 64, 74, 75, 80 and 88)."""

import unittest

from tests.terminals import BLANK, CSI, OTHER_ON, PLAIN, at, cursor, feed, history, new, shown

WIDE = "\u4e2d"
RED = CSI + "31m"
PLAIN_AGAIN = CSI + "m"
STYLED_SPACE = (32, (1, -1, 0))


def row(text, column, edit, width=6):
    """Returns the first row after an edit at a column, and the terminal."""
    terminal = new(width, 2, text + PLAIN_AGAIN + at(0, column) + CSI + edit)
    return shown(terminal)[0], terminal


def cells(terminal):
    return list(terminal.state()[3][0][0])


class InsertTest(unittest.TestCase):
    """Byte 64."""

    def test_counts(self):
        for text, expected in (("", "ab cde"), ("0", "ab cde"), ("1", "ab cde"), ("2", "ab  cd"), ("3", "ab   c"),
                               ("4", "ab    "), ("5", "ab    "), ("9999", "ab    ")):
            self.assertEqual(row("abcdef", 2, text + "@")[0], expected, text)

    def test_edges(self):
        self.assertEqual(row("abcdef", 0, "@")[0], " abcde")
        self.assertEqual(row("abcdef", 5, "@")[0], "abcde ")
        self.assertEqual(row("abcdef", 0, "99@")[0], "      ")

    def test_blanks_are_plain(self):
        terminal = new(3, 1, "abc" + RED + at(0, 1) + CSI + "@")
        self.assertEqual(cells(terminal), [(97, PLAIN), BLANK, (98, PLAIN)])

    def test_the_cursor(self):
        terminal = new(3, 2, "abc" + CSI + "@")
        self.assertEqual((shown(terminal)[0], cursor(terminal)), ("ab ", (0, 2, False)))

    def test_the_row_ends(self):
        for column in range(3):
            self.assertEqual(shown(new(3, 2, "abcd" + at(0, column) + CSI + "@"))[0][3:], "")

    def test_upon_a_right_half(self):
        text, terminal = row("a" + RED + WIDE + PLAIN_AGAIN + "b", 2, "@")
        self.assertEqual(text, "a   b ")
        self.assertEqual(cells(terminal)[1:4], [STYLED_SPACE, BLANK, STYLED_SPACE])

    def test_before_a_wide_character(self):
        self.assertEqual(row("a" + WIDE + "b", 1, "2@")[0], "a  " + WIDE + "<b")

    def test_a_right_half_is_lost(self):
        text, terminal = row("abcd" + RED + WIDE, 1, "@")
        self.assertEqual(text, "a bcd ")
        self.assertEqual(cells(terminal)[5], STYLED_SPACE)

    def test_both_halves_are_lost(self):
        self.assertEqual(row("abcd" + RED + WIDE, 1, "2@")[0], "a  bcd")

    def test_upon_the_last_right_half(self):
        text, terminal = row("abcd" + RED + WIDE, 5, "@")
        self.assertEqual(text, "abcd  ")
        self.assertEqual(cells(terminal)[4:], [STYLED_SPACE, BLANK])

    def test_a_gap_is_lost(self):
        terminal = new(3, 2, "ab" + WIDE + at(0, 2) + CSI + "@")
        self.assertEqual(shown(terminal), ["ab ", WIDE + "< "])
        terminal = new(3, 2, "ab" + WIDE + at(0, 0) + CSI + "@")
        self.assertEqual(shown(terminal), [" ab", WIDE + "< "])


class RemoveTest(unittest.TestCase):
    """Byte 80."""

    def test_counts(self):
        for text, expected in (("", "abdef "), ("0", "abdef "), ("1", "abdef "), ("2", "abef  "), ("3", "abf   "),
                               ("4", "ab    "), ("5", "ab    "), ("9999", "ab    ")):
            self.assertEqual(row("abcdef", 2, text + "P")[0], expected, text)

    def test_edges(self):
        self.assertEqual(row("abcdef", 0, "P")[0], "bcdef ")
        self.assertEqual(row("abcdef", 5, "P")[0], "abcde ")
        self.assertEqual(row("abcdef", 0, "99P")[0], "      ")

    def test_blanks_are_plain(self):
        terminal = new(3, 1, RED + "abc" + at(0, 1) + CSI + "P")
        self.assertEqual(cells(terminal)[2], BLANK)

    def test_the_cursor(self):
        terminal = new(3, 2, "abc" + CSI + "P")
        self.assertEqual((shown(terminal)[0], cursor(terminal)), ("ab ", (0, 2, False)))

    def test_the_row_ends(self):
        for column in range(3):
            self.assertEqual(shown(new(3, 2, "abcd" + at(0, column) + CSI + "P"))[0][3:], "")

    def test_a_left_half(self):
        text, terminal = row("a" + RED + WIDE + PLAIN_AGAIN + "b", 1, "P")
        self.assertEqual(text, "a b   ")
        self.assertEqual(cells(terminal)[1], STYLED_SPACE)

    def test_a_right_half(self):
        text, terminal = row("a" + RED + WIDE + PLAIN_AGAIN + "b", 2, "P")
        self.assertEqual(text, "a b   ")
        self.assertEqual(cells(terminal)[1], STYLED_SPACE)

    def test_two_halves_do_not_become_a_character(self):
        text, terminal = row(RED + WIDE + WIDE, 1, "2P")
        self.assertEqual(text, "      ")
        self.assertEqual(cells(terminal), [STYLED_SPACE, STYLED_SPACE] + [BLANK] * 4)

    def test_before_a_wide_character(self):
        self.assertEqual(row("ab" + WIDE, 0, "P")[0], "b" + WIDE + "<   ")

    def test_a_gap_becomes_a_blank(self):
        terminal = new(3, 2, "ab" + WIDE + at(0, 0) + CSI + "P")
        self.assertEqual(shown(terminal), ["b  ", WIDE + "< "])
        self.assertEqual(cells(terminal), [(98, PLAIN), BLANK, BLANK])

    def test_a_gap_is_removed(self):
        self.assertEqual(shown(new(3, 2, "ab" + WIDE + at(0, 2) + CSI + "P"))[0], "ab ")


class EraseCellsTest(unittest.TestCase):
    """Byte 88."""

    def test_counts(self):
        for text, expected in (("", "ab def"), ("0", "ab def"), ("1", "ab def"), ("2", "ab  ef"), ("3", "ab   f"),
                               ("4", "ab    "), ("5", "ab    "), ("9999", "ab    ")):
            terminal = new(6, 2, "abcdefxyz" + at(0, 2) + CSI + text + "X")
            self.assertEqual(shown(terminal), [expected + ("+" if expected[5] == "f" else ""), "xyz   "], text)
            self.assertEqual(cursor(terminal), (0, 2, False))

    def test_blanks_are_plain(self):
        self.assertEqual(cells(new(3, 1, RED + "abc" + at(0, 1) + CSI + "X"))[1], BLANK)

    def test_a_waiting_cursor(self):
        terminal = new(3, 2, "abc" + CSI + "X")
        self.assertEqual((shown(terminal)[0], cursor(terminal)), ("ab ", (0, 2, False)))

    def test_halves(self):
        for column in (1, 2):
            text, terminal = row("a" + RED + WIDE + PLAIN_AGAIN + "b", column, "X")
            self.assertEqual(text, "a  b  ")
            self.assertEqual(cells(terminal)[column], BLANK)
            self.assertEqual(cells(terminal)[3 - column], STYLED_SPACE)
        self.assertEqual(cells(row("a" + RED + WIDE, 1, "2X")[1])[1:3], [BLANK, BLANK])
        self.assertEqual(cells(row(RED + WIDE + WIDE, 1, "2X")[1])[:4], [STYLED_SPACE, BLANK, BLANK, STYLED_SPACE])

    def test_a_half_at_the_end_leaves_the_row_continued(self):
        terminal = new(4, 2, "ab" + RED + WIDE + "c" + at(0, 2) + CSI + "X")
        self.assertEqual(shown(terminal), ["ab  +", "c   "])
        self.assertEqual(cells(terminal)[2:], [BLANK, STYLED_SPACE])

    def test_beside_a_gap(self):
        terminal = new(3, 2, "ab" + WIDE + at(0, 1) + CSI + "X")
        self.assertEqual(shown(terminal)[0], "a |+")
        terminal = feed(terminal, CSI + "9X")
        self.assertEqual(shown(terminal)[0], "a  ")

    def test_an_erased_blank_counts_as_changed(self):
        terminal = new(4, 2, "ab" + WIDE + "c" + at(0, 2) + "x" + at(0, 3) + CSI + "X")
        self.assertEqual(shown(terminal), ["abx ", "c   "])


class EraseRowTest(unittest.TestCase):
    """Byte 75."""

    def test_parts(self):
        for text, expected in (("", "ab    "), ("0", "ab    "), ("1", "   def"), ("2", "      "), ("0;1", "ab    ")):
            terminal = new(6, 3, "abcdefghijkl" + at(0, 2) + CSI + text + "K")
            self.assertEqual(shown(terminal)[0], expected + ("+" if expected[5] == "f" else ""), text)
            self.assertEqual(shown(terminal)[1:], ["ghijkl", "      "])
            self.assertEqual(cursor(terminal), (0, 2, False))

    def test_edges(self):
        self.assertEqual(row("abcdef", 0, "K")[0], "      ")
        self.assertEqual(row("abcdef", 5, "K")[0], "abcde ")
        self.assertEqual(row("abcdef", 0, "1K")[0], " bcdef")
        self.assertEqual(row("abcdef", 5, "1K")[0], "      ")

    def test_a_waiting_cursor(self):
        for text, expected in (("", "ab "), ("1", "   "), ("2", "   ")):
            terminal = new(3, 2, "abc" + CSI + text + "K")
            self.assertEqual((shown(terminal)[0], cursor(terminal)), (expected, (0, 2, False)))

    def test_other_numbers(self):
        for number in (3, 4, 5, 9999):
            terminal = new(3, 2, "x\n\n\r" + "abc")
            before = terminal.state()
            self.assertEqual(feed(terminal, f"{CSI}{number}K").state(), before)

    def test_halves(self):
        text, terminal = row("a" + RED + WIDE + PLAIN_AGAIN + "b", 2, "K")
        self.assertEqual((text, cells(terminal)[1]), ("a     ", STYLED_SPACE))
        text, terminal = row("a" + RED + WIDE + PLAIN_AGAIN + "b", 1, "1K")
        self.assertEqual((text, cells(terminal)[2]), ("   b  ", STYLED_SPACE))
        text, terminal = row("a" + RED + WIDE + PLAIN_AGAIN + "b", 2, "1K")
        self.assertEqual(cells(terminal)[:4], [BLANK, BLANK, BLANK, (98, PLAIN)])

    def test_a_gap(self):
        self.assertEqual(shown(new(3, 2, "ab" + WIDE + at(0, 1) + CSI + "1K"))[0], "  |+")
        self.assertEqual(shown(new(3, 2, "ab" + WIDE + at(0, 1) + CSI + "K"))[0], "a  ")


class EraseScreenTest(unittest.TestCase):
    """Byte 74."""

    def erased(self, text, row_at=1, column=1):
        terminal = new(3, 4, "ppp\n\rabcdefghijkl" + at(row_at, column) + CSI + text + "J")
        return shown(terminal), terminal

    def test_parts(self):
        for text, expected in (
            ("", ["abc+", "d  ", "   ", "   "]), ("0", ["abc+", "d  ", "   ", "   "]),
            ("1", ["   ", "  f+", "ghi+", "jkl"]), ("2", ["   "] * 4), ("0;1", ["abc+", "d  ", "   ", "   "]),
        ):
            rows, terminal = self.erased(text)
            self.assertEqual(rows, expected, text)
            self.assertEqual((cursor(terminal), history(terminal)), ((1, 1, False), ["ppp"]))

    def test_at_the_corners(self):
        self.assertEqual(self.erased("", 0, 0)[0], ["   "] * 4)
        self.assertEqual(self.erased("", 3, 2)[0], ["abc+", "def+", "ghi+", "jk "])
        self.assertEqual(self.erased("1", 0, 0)[0], [" bc+", "def+", "ghi+", "jkl"])
        self.assertEqual(self.erased("1", 3, 2)[0], ["   "] * 4)
        self.assertEqual(self.erased("1", 1, 2)[0], ["   ", "   ", "ghi+", "jkl"])

    def test_the_history(self):
        rows, terminal = self.erased("3")
        self.assertEqual((rows, history(terminal)), (["abc+", "def+", "ghi+", "jkl"], []))

    def test_a_waiting_cursor(self):
        for number in (0, 1, 2, 3):
            terminal = new(3, 2, f"abc{CSI}{number}J")
            self.assertEqual(cursor(terminal), (0, 2, False))

    def test_other_numbers(self):
        for number in (4, 5, 22, 9999):
            terminal = new(3, 2, "x\n\n\r" + "abc")
            before = terminal.state()
            self.assertEqual(feed(terminal, f"{CSI}{number}J").state(), before)

    def test_the_region_and_the_mode_origin_do_not_matter(self):
        terminal = new(3, 4, "aaabbbcccddd" + CSI + "2;3r" + CSI + "?6h" + CSI + "2J")
        self.assertEqual(shown(terminal), ["   "] * 4)

    def test_the_other_screen(self):
        terminal = new(3, 2, "abc" + OTHER_ON + "d" + CSI + "2J")
        self.assertEqual(shown(terminal), ["   ", "   "])
        self.assertEqual(shown(feed(terminal, CSI + "?1049l")), ["abc", "   "])

    def test_blanks_are_plain(self):
        terminal = new(2, 2, RED + "abcd" + CSI + "2J")
        self.assertEqual(terminal.state()[3], (((BLANK, BLANK), False),) * 2)

    def test_halves(self):
        terminal = new(4, 1, "a" + RED + WIDE + PLAIN_AGAIN + "b" + at(0, 2) + CSI + "J")
        self.assertEqual(cells(terminal), [(97, PLAIN), STYLED_SPACE, BLANK, BLANK])


if __name__ == "__main__":
    unittest.main()
