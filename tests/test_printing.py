"""Points 4 to 6 and 21 to 24: printing."""

import unittest

from tests.terminals import (BLANK, CSI, GAP, OTHER_ON, PLAIN, SET, at, coded, cursor, feed, history, is_wide,
                             new, shown)

WIDE = "\u4e2d"
RED = CSI + "31m"


def cells(terminal, row=0):
    state = terminal.state()
    return list(state[3 + state[2]][row][0])


class CharacterTest(unittest.TestCase):
    def test_narrow(self):
        for letter in "a ~\u00e9\u20ac\U0001f000":
            terminal = new(4, 2, letter)
            self.assertEqual(cells(terminal), [(ord(letter), PLAIN), BLANK, BLANK, BLANK])
            self.assertEqual(cursor(terminal), (0, 1, False))

    def test_wide(self):
        for point in (4352, 4447, 11904, 42191, 44032, 55203, 63744, 64255, 65280, 65376, 127744, 129791,
                      131072, 262141):
            terminal = new(4, 2, chr(point))
            self.assertEqual(cells(terminal), [(point, PLAIN), (0, PLAIN), BLANK, BLANK])
            self.assertEqual(cursor(terminal), (0, 2, False))

    def test_beside_the_wide_ones(self):
        for point in (4351, 4448, 11903, 42192, 44031, 63743, 64256, 65279, 65377, 127743, 129792, 131071, 262142):
            self.assertFalse(is_wide(point))
            self.assertEqual(cells(new(4, 2, chr(point)))[1], BLANK)

    def test_the_current_style(self):
        style = (1, 2, 9)
        terminal = new(4, 1, CSI + "1;7;31;42ma" + WIDE)
        self.assertEqual(cells(terminal), [(97, style), (20013, style), (0, style), BLANK])

    def test_wrong_bytes_print_the_replacement(self):
        terminal = new(4, 1)
        terminal.feed([195, 97, 255, 128])
        self.assertEqual([cell[0] for cell in cells(terminal)], [65533, 97, 65533, 65533])

    def test_printed_over(self):
        terminal = new(4, 1, "abc\r" + RED + "x")
        self.assertEqual(cells(terminal), [(120, (1, -1, 0)), (98, PLAIN), (99, PLAIN), BLANK])


class EdgeTest(unittest.TestCase):
    def test_the_cursor_waits_in_the_last_column(self):
        terminal = new(3, 2, "abc")
        self.assertEqual((shown(terminal), cursor(terminal)), (["abc", "   "], (0, 2, True)))

    def test_a_wide_character_at_the_edge(self):
        terminal = new(3, 2, "a" + WIDE)
        self.assertEqual((shown(terminal), cursor(terminal)), (["a" + WIDE + "<", "   "], (0, 2, True)))

    def test_the_next_character_wraps(self):
        terminal = new(3, 2, "abcd")
        self.assertEqual((shown(terminal), cursor(terminal)), (["abc+", "d  "], (1, 1, False)))

    def test_the_least_terminal(self):
        terminal = new(2, 1, "ab")
        self.assertEqual((shown(terminal), cursor(terminal)), (["ab"], (0, 1, True)))
        feed(terminal, "c")
        self.assertEqual((history(terminal), shown(terminal), cursor(terminal)), (["ab+"], ["c "], (0, 1, False)))
        feed(terminal, WIDE)
        self.assertEqual(history(terminal), ["ab+", "c|+"])
        self.assertEqual((shown(terminal), cursor(terminal)), ([WIDE + "<"], (0, 1, True)))

    def test_no_room_for_a_wide_character(self):
        terminal = new(3, 2, "ab" + RED + WIDE)
        self.assertEqual((shown(terminal), cursor(terminal)), (["ab|+", WIDE + "< "], (1, 2, False)))
        self.assertEqual(cells(terminal)[2], GAP)

    def test_a_gap_over_a_wide_character(self):
        terminal = new(4, 2, "ab" + RED + WIDE + at(0, 3) + WIDE)
        self.assertEqual(shown(terminal), ["ab |+", WIDE + "<  "])
        self.assertEqual(cells(terminal)[2], (32, (1, -1, 0)))

    def test_many_rows(self):
        terminal = new(120, 110, "x" * 300)
        self.assertEqual(shown(terminal)[:3], ["x" * 120 + "+", "x" * 120 + "+", "x" * 60 + " " * 60])
        self.assertEqual(cursor(terminal), (2, 60, False))


class WrapOffTest(unittest.TestCase):
    def test_the_last_column_is_printed_over(self):
        terminal = new(3, 2, SET + "7labcd")
        self.assertEqual((shown(terminal), cursor(terminal)), (["abd", "   "], (0, 2, False)))

    def test_a_wide_character_steps_back(self):
        terminal = new(4, 2, SET + "7labcd" + WIDE)
        self.assertEqual((shown(terminal), cursor(terminal)), (["ab" + WIDE + "<", "    "], (0, 3, False)))
        feed(terminal, "x")
        self.assertEqual(shown(terminal), ["ab x", "    "])

    def test_a_wide_character_steps_back_upon_another(self):
        terminal = new(4, 1, SET + "7la" + RED + WIDE + CSI + "m" + at(0, 3) + WIDE)
        self.assertEqual(shown(terminal), ["a " + WIDE + "<"])
        self.assertEqual(cells(terminal)[1], (32, (1, -1, 0)))

    def test_a_waiting_cursor_wraps_all_the_same(self):
        terminal = new(3, 2, "abc" + SET + "7l")
        self.assertEqual(cursor(terminal), (0, 2, True))
        feed(terminal, "d")
        self.assertEqual((shown(terminal), cursor(terminal)), (["abc+", "d  "], (1, 1, False)))

    def test_turned_on_again(self):
        terminal = new(3, 2, SET + "7labc" + SET + "7h")
        self.assertEqual(cursor(terminal), (0, 2, False))
        feed(terminal, "d")
        self.assertEqual((shown(terminal), cursor(terminal)), (["abd", "   "], (0, 2, True)))


class ContinuedTest(unittest.TestCase):
    def test_a_change_of_the_last_cell_ends_it(self):
        for text in ("x", "c", CSI + "X", CSI + "K"):
            self.assertEqual(shown(new(3, 2, "abcd" + at(0, 2) + text))[0][3:], "", text)

    def test_a_change_of_others_does_not(self):
        for text in (at(0, 1) + "x", at(0, 0) + "xy", at(0, 0) + WIDE, CSI + "H" + CSI + "2X", CSI + "H" + CSI + "1K"):
            self.assertEqual(shown(new(3, 2, "abcd" + text))[0][3:], "+", text)

    def test_a_half_that_becomes_a_space_does_not_count(self):
        terminal = new(4, 2, "ab" + RED + WIDE + "c" + CSI + "m" + at(0, 2) + "x")
        self.assertEqual(shown(terminal), ["abx +", "c   "])
        self.assertEqual(cells(terminal)[3], (32, (1, -1, 0)))

    def test_the_last_half_counts(self):
        terminal = new(4, 2, "ab" + WIDE + "c" + at(0, 3) + "x")
        self.assertEqual(shown(terminal), ["ab x", "c   "])

    def test_a_gap_counts(self):
        terminal = new(3, 3, "abcd" + at(0, 2) + WIDE)
        self.assertEqual(shown(terminal)[:2], ["ab|+", WIDE + "< "])

    def test_a_gap_below_the_region_ends_the_row(self):
        terminal = new(3, 3, CSI + "1;2r" + at(2, 2) + WIDE)
        self.assertEqual((shown(terminal)[2], cursor(terminal)), (WIDE + "<|", (2, 2, False)))

    def test_no_wrap_below_the_region(self):
        terminal = new(3, 3, CSI + "1;2r" + at(2, 0) + "abcd")
        self.assertEqual((shown(terminal), cursor(terminal)), (["   ", "   ", "dbc"], (2, 1, False)))

    def test_a_region_that_scrolls_ends_its_last_row(self):
        terminal = new(3, 3, at(1, 0) + "abcdef" + CSI + "1;2r" + at(1, 0) + "\n")
        self.assertEqual(shown(terminal), ["abc", "   ", "def"])


class WrapTest(unittest.TestCase):
    def test_at_the_end_of_the_screen(self):
        terminal = new(3, 2, "abcdefg")
        self.assertEqual((history(terminal), shown(terminal)), (["abc+"], ["def+", "g  "]))

    def test_in_a_screen_of_one_row(self):
        terminal = new(3, 1, "abcdefg", limit=1)
        self.assertEqual((history(terminal), shown(terminal)), (["def+"], ["g  "]))

    def test_in_a_screen_of_one_row_without_history(self):
        terminal = new(3, 1, "abcdefg", limit=0)
        self.assertEqual((history(terminal), shown(terminal)), ([], ["g  "]))

    def test_in_the_other_screen_of_one_row(self):
        terminal = new(3, 1, "x\n" + OTHER_ON + "\rabcd")
        self.assertEqual((history(terminal), shown(terminal)), (["x  "], ["d  "]))

    def test_at_the_end_of_a_region(self):
        terminal = new(3, 4, "top" + CSI + "2;3r" + at(1, 0) + "abcdefg")
        self.assertEqual(shown(terminal), ["top", "def+", "g  ", "   "])
        self.assertEqual((history(terminal), cursor(terminal)), ([], (2, 1, False)))

    def test_at_the_end_of_a_region_at_the_top(self):
        terminal = new(3, 4, CSI + "1;2rabcdefg")
        self.assertEqual((history(terminal), shown(terminal)), (["abc+"], ["def+", "g  ", "   ", "   "]))

    def test_above_the_region(self):
        terminal = new(3, 4, CSI + "3;4rabcd")
        self.assertEqual(shown(terminal), ["abc+", "d  ", "   ", "   "])

    def test_into_the_region(self):
        terminal = new(3, 4, CSI + "2;4rabcd")
        self.assertEqual(shown(terminal), ["abc+", "d  ", "   ", "   "])

    def test_below_the_region(self):
        terminal = new(3, 4, CSI + "1;2r" + at(2, 0) + "abcd")
        self.assertEqual(shown(terminal), ["   ", "   ", "abc+", "d  "])


class InsertTest(unittest.TestCase):
    def insert(self, width, text, column, more):
        return new(width, 2, text + CSI + "4h" + at(0, column) + more)

    def test_narrow(self):
        terminal = self.insert(5, "abc", 1, "x")
        self.assertEqual((shown(terminal)[0], cursor(terminal)), ("axbc ", (0, 2, False)))

    def test_wide(self):
        terminal = self.insert(5, "abc", 1, WIDE)
        self.assertEqual((shown(terminal)[0], cursor(terminal)), ("a" + WIDE + "<bc", (0, 3, False)))

    def test_cells_are_lost(self):
        self.assertEqual(shown(self.insert(4, "abcd", 1, "xy"))[0], "axyb")
        self.assertEqual(shown(self.insert(4, "abcd", 2, WIDE))[0], "ab" + WIDE + "<")
        self.assertEqual(shown(self.insert(4, "abcd", 3, "x"))[0], "abcx")

    def test_half_a_character_is_lost(self):
        terminal = self.insert(4, "ab" + RED + WIDE + CSI + "m", 0, "x")
        self.assertEqual(shown(terminal)[0], "xab ")
        self.assertEqual(cells(terminal)[3], (32, (1, -1, 0)))

    def test_upon_a_right_half(self):
        terminal = self.insert(6, "a" + RED + WIDE + CSI + "mb", 2, "x")
        self.assertEqual(shown(terminal)[0], "a x b ")
        self.assertEqual([cells(terminal)[1], cells(terminal)[3]], [(32, (1, -1, 0))] * 2)

    def test_the_row_ends(self):
        self.assertEqual(shown(self.insert(3, "abcd", 0, "x")), ["xab", "d  "])

    def test_a_gap_is_lost(self):
        self.assertEqual(shown(self.insert(3, "ab" + WIDE, 0, "x")), ["xab", WIDE + "< "])

    def test_a_waiting_cursor_wraps_first(self):
        terminal = new(3, 2, "\r\nxy" + at(0, 0) + "abc" + CSI + "4hd")
        self.assertEqual(shown(terminal), ["abc+", "dxy"])

    def test_no_room_for_a_wide_character(self):
        terminal = self.insert(3, "abc\r\nxyz", 2, WIDE)
        self.assertEqual(shown(terminal), ["ab|+", WIDE + "<x"])


class HalfTest(unittest.TestCase):
    def test_narrow_upon_each_half(self):
        style = (1, -1, 0)
        left = new(4, 1, "a" + RED + WIDE + CSI + "mb" + at(0, 1) + "x")
        self.assertEqual(cells(left), [(97, PLAIN), (120, PLAIN), (32, style), (98, PLAIN)])
        right = new(4, 1, "a" + RED + WIDE + CSI + "mb" + at(0, 2) + "x")
        self.assertEqual(cells(right), [(97, PLAIN), (32, style), (120, PLAIN), (98, PLAIN)])

    def test_wide_upon_two_halves(self):
        terminal = new(6, 1, RED + WIDE + CSI + "32m" + WIDE + CSI + "m" + at(0, 1) + WIDE)
        self.assertEqual(shown(terminal), [" " + WIDE + "<   "])
        self.assertEqual([cells(terminal)[0], cells(terminal)[3]], [(32, (1, -1, 0)), (32, (2, -1, 0))])

    def test_wide_upon_wide(self):
        self.assertEqual(shown(new(4, 1, "a" + WIDE + at(0, 1) + "\uac00")), ["a\uac00< "])

    def test_beside_a_gap(self):
        terminal = new(3, 2, "ab" + WIDE + at(0, 1) + "x")
        self.assertEqual(shown(terminal), ["ax|+", WIDE + "< "])
        feed(terminal, "y")
        self.assertEqual(shown(terminal), ["axy", WIDE + "< "])
        self.assertEqual(coded("y"), [121])


if __name__ == "__main__":
    unittest.main()
