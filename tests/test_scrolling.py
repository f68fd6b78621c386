"""Points 18, 22, 25 to 27 and what scrolls by points 28 to 30."""

import unittest

from tests.terminals import CSI, OTHER_OFF, OTHER_ON, SET, at, cursor, feed, history, new, shown

LETTERS = "abcdefghijklmnopqrstuvwxyz"


def lettered_terminal(height, region="", limit=100):
    """Returns a terminal with the rows aa, bb, .. and a region."""
    text = "\r\n".join(letter * 2 for letter in LETTERS[:height])
    return new(3, height, text + CSI + region + "r", limit=limit)


def continued_terminal(height, region="", limit=100):
    """Returns a terminal of two columns with the rows aa, bb, .., all continued but the last one."""
    text = "".join(letter * 2 for letter in LETTERS[:height])
    return new(2, height, text + CSI + region + "r", limit=limit)


def rows(letters):
    return [letter * 2 + " " if letter != " " else "   " for letter in letters]


class UpTest(unittest.TestCase):
    """Byte 83."""

    def test_the_whole_screen(self):
        for count, expected in ((1, "bcd "), (2, "cd  "), (3, "d   "), (4, "    "), (5, "    "), (9999, "    ")):
            terminal = feed(lettered_terminal(4), f"{CSI}{count}S")
            self.assertEqual(shown(terminal), rows(expected), count)
            self.assertEqual(history(terminal), rows("abcd"[:count]), count)

    def test_no_count(self):
        for text in ("S", "0S", "1S", ";5S"):
            terminal = feed(lettered_terminal(4), CSI + text)
            self.assertEqual((shown(terminal), history(terminal)), (rows("bcd "), rows("a")), text)

    def test_a_region_at_the_top(self):
        for count, expected in ((1, "bc def"), (2, "c  def"), (3, "   def"), (4, "   def"), (9999, "   def")):
            terminal = feed(lettered_terminal(6, "1;3"), f"{CSI}{count}S")
            self.assertEqual(shown(terminal), rows(expected), count)
            self.assertEqual(history(terminal), rows("abc"[:count]), count)

    def test_a_region_below(self):
        for count, expected in ((1, "abde f"), (2, "abe  f"), (3, "ab   f"), (9999, "ab   f")):
            terminal = feed(lettered_terminal(6, "3;5"), f"{CSI}{count}S")
            self.assertEqual((shown(terminal), history(terminal)), (rows(expected), []), count)

    def test_the_cursor_stays_and_no_longer_waits(self):
        terminal = feed(lettered_terminal(4), at(1, 0) + "xyz")
        self.assertEqual(cursor(terminal), (1, 2, True))
        feed(terminal, CSI + "S")
        self.assertEqual(cursor(terminal), (1, 2, False))

    def test_the_cursor_is_anywhere(self):
        terminal = feed(lettered_terminal(6, "3;5"), at(0, 1) + CSI + "S")
        self.assertEqual((shown(terminal), cursor(terminal)), (rows("abde f"), (0, 1, False)))

    def test_flags_of_the_whole_screen(self):
        terminal = feed(continued_terminal(4), CSI + "2S")
        self.assertEqual((history(terminal), shown(terminal)), (["aa+", "bb+"], ["cc+", "dd", "  ", "  "]))

    def test_flags_of_a_region_at_the_top(self):
        terminal = feed(continued_terminal(5, "1;3"), CSI + "S")
        self.assertEqual((history(terminal), shown(terminal)), (["aa+"], ["bb+", "cc", "  ", "dd+", "ee"]))

    def test_flags_of_the_whole_region(self):
        terminal = feed(continued_terminal(5, "1;3"), CSI + "3S")
        self.assertEqual((history(terminal), shown(terminal)), (["aa+", "bb+", "cc"], ["  ", "  ", "  ", "dd+", "ee"]))

    def test_flags_of_a_region_below(self):
        terminal = feed(continued_terminal(5, "2;4"), CSI + "S")
        self.assertEqual(shown(terminal), ["aa", "cc+", "dd", "  ", "ee"])

    def test_the_history_keeps_its_flags(self):
        terminal = feed(continued_terminal(3), CSI + "S")
        self.assertEqual(history(terminal), ["aa+"])
        feed(terminal, CSI + "S")
        self.assertEqual((history(terminal), shown(terminal)), (["aa+", "bb+"], ["cc", "  ", "  "]))

    def test_the_other_screen(self):
        terminal = new(2, 3, "xxyyzzww" + OTHER_ON + CSI + "Haabbcc" + CSI + "S")
        self.assertEqual((history(terminal), shown(terminal)), (["xx+"], ["bb+", "cc", "  "]))
        feed(terminal, OTHER_OFF)
        self.assertEqual(shown(terminal), ["yy+", "zz+", "ww"])


class DownTest(unittest.TestCase):
    """Byte 84."""

    def test_the_whole_screen(self):
        for count, expected in ((1, " abc"), (2, "  ab"), (3, "   a"), (4, "    "), (5, "    "), (9999, "    ")):
            terminal = feed(lettered_terminal(4), f"{CSI}{count}T")
            self.assertEqual((shown(terminal), history(terminal)), (rows(expected), []), count)

    def test_no_count(self):
        for text in ("T", "0T", "1T"):
            self.assertEqual(shown(feed(lettered_terminal(4), CSI + text)), rows(" abc"), text)

    def test_regions(self):
        self.assertEqual(shown(feed(lettered_terminal(6, "1;3"), CSI + "2T")), rows("  adef"))
        self.assertEqual(shown(feed(lettered_terminal(6, "3;5"), CSI + "T")), rows("ab cdf"))
        self.assertEqual(shown(feed(lettered_terminal(6, "3;5"), CSI + "9T")), rows("ab   f"))

    def test_the_cursor_stays_and_no_longer_waits(self):
        terminal = feed(lettered_terminal(4), at(1, 0) + "xyz" + CSI + "T")
        self.assertEqual(cursor(terminal), (1, 2, False))

    def test_flags(self):
        self.assertEqual(shown(feed(continued_terminal(4), CSI + "T")), ["  ", "aa+", "bb+", "cc"])
        self.assertEqual(shown(feed(continued_terminal(5, "2;4"), CSI + "T")), ["aa", "  ", "bb+", "cc", "ee"])
        self.assertEqual(shown(feed(continued_terminal(5, "1;3"), CSI + "T")), ["  ", "aa+", "bb", "dd+", "ee"])

    def test_the_history_above(self):
        terminal = feed(continued_terminal(3), CSI + "S" + CSI + "T")
        self.assertEqual((history(terminal), shown(terminal)), (["aa"], ["  ", "bb+", "cc"]))

    def test_the_history_beside_the_other_screen(self):
        terminal = feed(continued_terminal(3), CSI + "S" + OTHER_ON + CSI + "T")
        self.assertEqual(history(terminal), ["aa+"])


class RowsTest(unittest.TestCase):
    """Bytes 76 and 77."""

    def test_inserted(self):
        for count, expected in ((1, "a bc"), (2, "a  b"), (3, "a   "), (4, "a   "), (9999, "a   ")):
            terminal = feed(lettered_terminal(4), at(1, 1) + f"{CSI}{count}L")
            self.assertEqual((shown(terminal), history(terminal)), (rows(expected), []), count)
            self.assertEqual(cursor(terminal), (1, 0, False))

    def test_removed(self):
        for count, expected in ((1, "acd "), (2, "ad  "), (3, "a   "), (4, "a   "), (9999, "a   ")):
            terminal = feed(lettered_terminal(4), at(1, 1) + f"{CSI}{count}M")
            self.assertEqual((shown(terminal), history(terminal)), (rows(expected), []), count)
            self.assertEqual(cursor(terminal), (1, 0, False))

    def test_no_count(self):
        for text in ("", "0", "1"):
            self.assertEqual(shown(feed(lettered_terminal(4), at(1, 1) + CSI + text + "L")), rows("a bc"))
            self.assertEqual(shown(feed(lettered_terminal(4), at(1, 1) + CSI + text + "M")), rows("acd "))

    def test_at_the_top_nothing_enters_the_history(self):
        terminal = feed(lettered_terminal(4), at(0, 1) + CSI + "2M")
        self.assertEqual((shown(terminal), history(terminal)), (rows("cd  "), []))

    def test_in_a_region(self):
        for row, inserted, removed in ((1, "a bcef", "acd ef"), (2, "ab cef", "abd ef"), (3, "abc ef", "abc ef")):
            self.assertEqual(shown(feed(lettered_terminal(6, "2;4"), at(row, 0) + CSI + "L")), rows(inserted))
            self.assertEqual(shown(feed(lettered_terminal(6, "2;4"), at(row, 0) + CSI + "M")), rows(removed))

    def test_outside_of_the_region_nothing_happens(self):
        for row in (0, 4, 5):
            for text in ("L", "M", "2L", "2M"):
                terminal = feed(lettered_terminal(6, "2;4"), at(row, 0) + "xyz")
                before = terminal.state()
                self.assertEqual(before[6], (row, 2, True))
                self.assertEqual(feed(terminal, CSI + text).state(), before, (row, text))

    def test_a_waiting_cursor(self):
        for text in ("L", "M"):
            terminal = feed(lettered_terminal(4), at(1, 0) + "xyz" + CSI + text)
            self.assertEqual(cursor(terminal), (1, 0, False))

    def test_flags(self):
        self.assertEqual(shown(feed(continued_terminal(4), at(1, 0) + CSI + "L")), ["aa", "  ", "bb+", "cc"])
        self.assertEqual(shown(feed(continued_terminal(4), at(1, 0) + CSI + "M")), ["aa", "cc+", "dd", "  "])
        self.assertEqual(shown(feed(continued_terminal(5, "1;3"), at(1, 0) + CSI + "L")),
                         ["aa", "  ", "bb", "dd+", "ee"])
        self.assertEqual(shown(feed(continued_terminal(5, "1;3"), at(1, 0) + CSI + "M")),
                         ["aa", "cc", "  ", "dd+", "ee"])
        self.assertEqual(shown(feed(continued_terminal(5, "1;3"), at(2, 0) + CSI + "M")),
                         ["aa+", "bb", "  ", "dd+", "ee"])

    def test_the_history_above(self):
        for text in ("L", "M"):
            terminal = feed(continued_terminal(3), CSI + "S" + CSI + "H" + CSI + text)
            self.assertEqual(history(terminal), ["aa"], text)

    def test_the_history_beside_the_other_screen(self):
        for text in ("L", "M", "S", "T", "H\x1bM"):
            terminal = feed(continued_terminal(3), CSI + "S" + OTHER_ON + CSI + "H" + CSI + text)
            self.assertEqual(history(terminal), ["aa+"], text)

    def test_without_a_history(self):
        for text in ("L", "M", "T"):
            terminal = feed(continued_terminal(3), CSI + "H" + CSI + text)
            self.assertEqual(history(terminal), [], text)


class AdvanceTest(unittest.TestCase):
    def test_each_way_to_advance(self):
        for text in ("\n", "\v", "\f", "\x1bD"):
            terminal = feed(lettered_terminal(3), at(1, 1) + text)
            self.assertEqual((shown(terminal), cursor(terminal)), (rows("abc"), (2, 1, False)), text)
            feed(terminal, text)
            self.assertEqual((shown(terminal), cursor(terminal)), (rows("bc "), (2, 1, False)), text)
            self.assertEqual(history(terminal), rows("a"))

    def test_the_row_is_not_continued(self):
        self.assertEqual(shown(new(3, 2, "abc\nd")), ["abc", "  d"])
        self.assertEqual(shown(feed(continued_terminal(3), at(2, 0) + "\n")), ["bb+", "cc", "  "])

    def test_a_waiting_cursor(self):
        for text in ("\n", "\x1bD"):
            self.assertEqual(cursor(new(3, 2, "abc" + text)), (1, 2, False))
            self.assertEqual(cursor(new(3, 1, "abc" + text)), (0, 2, False))

    def test_a_region(self):
        terminal = feed(lettered_terminal(6, "2;4"), at(3, 1) + "\n")
        self.assertEqual((shown(terminal), cursor(terminal)), (rows("acd ef"), (3, 1, False)))
        self.assertEqual(history(terminal), [])

    def test_above_and_below_the_region(self):
        for row, then in ((0, 1), (4, 5), (5, 5)):
            terminal = feed(lettered_terminal(6, "2;4"), at(row, 1) + "\n")
            self.assertEqual((shown(terminal), cursor(terminal)), (rows("abcdef"), (then, 1, False)))

    def test_at_the_end_below_the_region_it_no_longer_waits(self):
        terminal = feed(lettered_terminal(6, "2;4"), at(5, 0) + "xyz\n")
        self.assertEqual(cursor(terminal), (5, 2, False))


class RetreatTest(unittest.TestCase):
    """Escape 77."""

    def test_moves_up(self):
        terminal = feed(lettered_terminal(3), at(2, 1) + "\x1bM")
        self.assertEqual((shown(terminal), cursor(terminal)), (rows("abc"), (1, 1, False)))

    def test_scrolls_down_at_the_top(self):
        terminal = feed(lettered_terminal(3), at(0, 1) + "\x1bM")
        self.assertEqual((shown(terminal), cursor(terminal)), (rows(" ab"), (0, 1, False)))

    def test_a_region(self):
        for row, then, expected in ((0, 0, "abcdef"), (1, 1, "a bcef"), (2, 1, "abcdef"), (4, 3, "abcdef")):
            terminal = feed(lettered_terminal(6, "2;4"), at(row, 1) + "\x1bM")
            self.assertEqual((shown(terminal), cursor(terminal)), (rows(expected), (then, 1, False)), row)

    def test_above_a_lower_region(self):
        for row, then, expected in ((0, 0, "abcdef"), (1, 0, "abcdef"), (2, 2, "ab cdf"), (3, 2, "abcdef")):
            terminal = feed(lettered_terminal(6, "3;5"), at(row, 1) + "\x1bM")
            self.assertEqual((shown(terminal), cursor(terminal)), (rows(expected), (then, 1, False)), row)

    def test_a_waiting_cursor(self):
        for row, then in ((0, 0), (1, 1), (2, 1), (4, 3)):
            terminal = feed(lettered_terminal(6, "2;4"), at(row, 0) + "xyz\x1bM")
            self.assertEqual(cursor(terminal), (then, 2, False))

    def test_flags(self):
        self.assertEqual(shown(feed(continued_terminal(3), CSI + "H\x1bM")), ["  ", "aa+", "bb"])
        self.assertEqual(shown(feed(continued_terminal(4, "2;3"), at(1, 0) + "\x1bM")), ["aa", "  ", "bb", "dd"])

    def test_the_history_above(self):
        terminal = feed(continued_terminal(3), CSI + "S" + CSI + "H\x1bM")
        self.assertEqual((history(terminal), shown(terminal)), (["aa"], ["  ", "bb+", "cc"]))


class HistoryTest(unittest.TestCase):
    def test_limits(self):
        for limit in (0, 1, 3, 5, 8, 100, 1000):
            terminal = feed(lettered_terminal(2, limit=limit), at(1, 0))
            for letter in "cdefgh":
                feed(terminal, "\r\n" + letter * 2)
            self.assertEqual(history(terminal), rows("abcdef"[max(0, 6 - limit):]), limit)
            self.assertEqual(shown(terminal), rows("gh"))

    def test_many_at_once(self):
        terminal = feed(lettered_terminal(6, limit=4), CSI + "6S")
        self.assertEqual(history(terminal), rows("cdef"))

    def test_filled(self):
        for limit in (100, 1000):
            terminal = new(5, 2, "".join(f"{number:05d}\r\n" for number in range(limit + 50)), limit=limit)
            self.assertEqual(len(history(terminal)), limit)
            self.assertEqual((history(terminal)[0], history(terminal)[-1]), ("00049", f"{limit + 48:05d}"))

    def test_lines_in_a_full_history(self):
        terminal = new(2, 1, "aabbccddee", limit=2)
        self.assertEqual((history(terminal), shown(terminal)), (["cc+", "dd+"], ["ee"]))

    def test_emptied(self):
        terminal = feed(continued_terminal(3), CSI + "2S" + CSI + "3J")
        self.assertEqual((history(terminal), shown(terminal)), ([], ["cc", "  ", "  "]))

    def test_emptied_beside_the_other_screen(self):
        terminal = feed(lettered_terminal(3), CSI + "S" + OTHER_ON + CSI + "3J" + OTHER_OFF)
        self.assertEqual((history(terminal), shown(terminal)), ([], rows("bc ")))

    def test_the_other_screen_adds_nothing(self):
        terminal = feed(lettered_terminal(2), OTHER_ON + "\n" * 9 + CSI + "2S" + "x" * 40)
        self.assertEqual(history(terminal), [])

    def test_more_than_a_hundred_rows(self):
        terminal = new(2, 120, "".join(f"{chr(97 + row % 26)}\r\n" for row in range(150)), limit=7)
        expected = [chr(97 + row % 26) + " " for row in range(150)]
        self.assertEqual(shown(terminal), expected[31:] + ["  "])
        self.assertEqual(history(terminal), expected[24:31])

    def test_modes_do_not_matter(self):
        terminal = feed(lettered_terminal(3), SET + "6h" + CSI + "4h" + CSI + "S")
        self.assertEqual((history(terminal), shown(terminal)), (rows("a"), rows("bc ")))


if __name__ == "__main__":
    unittest.main()
