"""Points 33 to 35: resizing, and the logical text."""

import unittest

from manypanes.lines import lines_of, text_of
from manypanes.rows import Row
from tests.terminals import (BLANK, CSI, GAP, OTHER_OFF, OTHER_ON, PLAIN, SET, at, check_sound, cursor,
                             drawn_text, feed, history, lettered, marked, new, shown, texts)

WIDE = "\u4e2d"
W = WIDE + "<"


def resized(terminal, width, height):
    terminal.resize(width, height)
    return terminal


class LineTest(unittest.TestCase):
    """Resizing to another width lays the lines anew."""

    def check(self, terminal, width, height, past, rows):
        resized(terminal, width, height)
        self.assertEqual((history(terminal), shown(terminal)), (past, rows))

    def test_narrower(self):
        self.check(new(6, 3, "abcdef\r\nxy"), 4, 3, [], ["abcd+", "ef  ", "xy  "])
        self.check(new(6, 3, "abcdef\r\nxy"), 2, 3, ["ab+"], ["cd+", "ef", "xy"])

    def test_wider(self):
        self.check(new(3, 3, "abcdef\r\nxy"), 4, 3, [], ["abcd+", "ef  ", "xy  "])
        self.check(new(3, 3, "abcdef\r\nxy"), 10, 3, [], ["abcdef    ", "xy        ", "          "])

    def test_and_back(self):
        terminal = new(6, 3, "abcdef\r\nxy")
        before = terminal.state()
        for width in (3, 4, 5, 7, 40):
            resized(terminal, width, 3)
            self.assertEqual(texts(terminal), ["abcdef", "xy"])
            resized(terminal, 6, 3)
            self.assertEqual((terminal.state()[3:6], cursor(terminal)), (before[3:6], (1, 2, False)))

    def test_and_back_with_the_cursor_behind_a_full_row(self):
        terminal = resized(resized(new(6, 3, "abcdef\r\nxy"), 2, 3), 6, 3)
        self.assertEqual((shown(terminal)[:2], cursor(terminal)), (["abcdef", "xy    "], (1, 1, False)))

    def test_a_full_row_does_not_continue(self):
        self.check(new(6, 3, "abcdef\r\nxy"), 3, 4, [], ["abc+", "def", "xy ", "   "])

    def test_a_gap_appears(self):
        self.check(new(6, 2, "abc" + WIDE + "d"), 4, 3, [], ["abc|+", W + "d ", "    "])

    def test_a_gap_disappears(self):
        self.check(new(4, 2, "abc" + WIDE + "d"), 6, 2, [], ["abc" + W + "d", "      "])

    def test_a_gap_moves(self):
        self.check(new(4, 3, "abc" + WIDE + WIDE + WIDE), 3, 4, [], ["abc+", W + "|+", W + "|+", W + " "])

    def test_a_gap_of_an_ended_row(self):
        terminal = new(3, 3, CSI + "1;2r" + at(2, 2) + WIDE)
        self.assertEqual(shown(terminal)[2], W + "|")
        self.check(terminal, 4, 3, [], ["    ", "    ", W + "  "])

    def test_wide_characters_in_two_columns(self):
        self.check(new(6, 4, "a" + WIDE + WIDE + "b"), 2, 4, [], ["a|+", W + "+", W + "+", "b "])

    def test_styles_are_kept(self):
        terminal = resized(new(4, 2, CSI + "31mab" + WIDE + "c"), 3, 2)
        style = (1, -1, 0)
        self.assertEqual(terminal.state()[3],
                         ((((97, style), (98, style), GAP), True),
                          (((20013, style), (0, style), (99, style)), False)))

    def test_blanks_within_a_line_are_kept(self):
        self.check(new(4, 2, "a   b"), 3, 2, [], ["a  +", " b "])

    def test_blanks_at_the_end_are_not(self):
        self.check(new(6, 2, "ab    \r\nx"), 3, 2, [], ["ab ", "x  "])

    def test_styled_spaces_at_the_end_are_kept(self):
        self.check(new(6, 3, "a" + CSI + "7m    " + CSI + "m\r\nx"), 3, 3, [], ["a  +", "   ", "x  "])

    def test_empty_lines_between_are_kept(self):
        self.check(new(4, 4, "ab\r\n\r\n\r\ncd"), 3, 4, [], ["ab ", "   ", "   ", "cd "])

    def test_lines_from_the_history(self):
        terminal = new(4, 2, "abcdefghij\r\nxy")
        self.assertEqual((history(terminal), shown(terminal)), (["abcd+", "efgh+"], ["ij  ", "xy  "]))
        self.check(terminal, 10, 2, [], ["abcdefghij", "xy        "])

    def test_a_line_across_the_edge(self):
        self.check(new(4, 2, "abcdefghij"), 5, 1, ["abcde+"], ["fghij"])

    def test_a_continued_row_of_blanks(self):
        terminal = new(4, 3, "ab" + WIDE + "c" + at(0, 2) + "  " + at(1, 0) + " " + at(0, 0) + CSI + "2X")
        self.assertEqual((shown(terminal)[0], texts(terminal)), ("    ", []))
        self.check(terminal, 5, 3, [], ["     "] * 3)

    def test_a_continued_last_row_ends_its_line(self):
        rows = [Row([(97, PLAIN), BLANK], True), Row([(98, PLAIN), BLANK], True)]
        self.assertEqual(lines_of(rows), [rows])
        self.assertEqual(text_of(rows), [(97, PLAIN), BLANK, (98, PLAIN)])
        self.assertEqual(lines_of([]), [])


class HeightTest(unittest.TestCase):
    def check(self, terminal, height, past, rows, place):
        resized(terminal, terminal.state()[0], height)
        self.assertEqual((history(terminal), shown(terminal)), (past, rows))
        self.assertEqual(cursor(terminal), place + (False,))

    def test_lower(self):
        self.check(new(2, 4, "a\r\nb\r\nc\r\nd"), 2, ["a ", "b "], ["c ", "d "], (1, 1))

    def test_lower_with_blank_rows(self):
        self.check(new(2, 4, "a\r\nb"), 2, [], ["a ", "b "], (1, 1))
        self.check(new(2, 4, "a\r\nb"), 1, ["a "], ["b "], (0, 1))

    def test_blank_rows_up_to_the_cursor_are_kept(self):
        self.check(new(2, 5, "a\r\n\n\n"), 2, ["a ", "  "], ["  ", "  "], (1, 0))

    def test_higher(self):
        self.check(new(2, 2, "a\r\nb\r\nc\r\nd"), 3, ["a "], ["b ", "c ", "d "], (2, 1))
        self.check(new(2, 2, "a\r\nb\r\nc\r\nd"), 4, [], ["a ", "b ", "c ", "d "], (3, 1))
        self.check(new(2, 2, "a\r\nb\r\nc\r\nd"), 6, [], ["a ", "b ", "c ", "d ", "  ", "  "], (3, 1))

    def test_the_cursor_above_the_screen(self):
        self.check(new(2, 4, "a\r\nb\r\nc\r\nd" + at(0, 1)), 2, ["a ", "b "], ["c ", "d "], (0, 0))
        self.check(new(2, 4, "a\r\nb\r\nc\r\nd" + at(1, 1)), 2, ["a ", "b "], ["c ", "d "], (0, 0))
        self.check(new(2, 4, "a\r\nb\r\nc\r\nd" + at(2, 1)), 2, ["a ", "b "], ["c ", "d "], (0, 1))

    def test_lines_keep_their_flags(self):
        self.check(new(2, 3, "aabbc"), 1, ["aa+", "bb+"], ["c "], (0, 1))
        self.check(new(2, 1, "aabbc"), 3, [], ["aa+", "bb+", "c "], (2, 1))

    def test_to_the_largest_and_back(self):
        terminal = new(2, 1, "aabbc")
        resized(terminal, 400, 200)
        self.assertEqual((shown(terminal)[0].rstrip(), cursor(terminal)), ("aabbc", (0, 5, False)))
        resized(terminal, 2, 1)
        self.assertEqual((history(terminal), shown(terminal)), (["aa+", "bb+"], ["c "]))


class LimitTest(unittest.TestCase):
    def test_the_history_is_cut(self):
        for limit, past in ((0, []), (1, ["cc+"]), (2, ["bb+", "cc+"]), (3, ["aa+", "bb+", "cc+"])):
            terminal = resized(new(8, 1, "aabbccdd", limit=limit), 2, 1)
            self.assertEqual((history(terminal), shown(terminal)), (past, ["dd"]), limit)

    def test_what_is_cut_is_lost(self):
        terminal = resized(resized(new(8, 1, "aabbccdd", limit=1), 2, 1), 8, 1)
        self.assertEqual((history(terminal), shown(terminal)), ([], ["ccdd    "]))

    def test_a_full_history(self):
        terminal = new(4, 2, "".join(f"{row:04d}\r\n" for row in range(140)))
        self.assertEqual((len(history(terminal)), history(terminal)[0]), (100, "0039"))
        resized(terminal, 2, 2)
        self.assertEqual(len(history(terminal)), 100)
        self.assertEqual((history(terminal)[0], history(terminal)[-1]), ("89", "01+"))
        self.assertEqual(shown(terminal), ["39", "  "])

    def test_a_longer_line_than_the_limit(self):
        terminal = resized(new(100, 3, "x" * 300, limit=5), 2, 3)
        self.assertEqual((len(history(terminal)), shown(terminal)), (5, ["xx+", "xx+", "xx"]))


class CursorTest(unittest.TestCase):
    """The mark that the cursor keeps."""

    def check(self, width, height, text, then, place):
        terminal = resized(new(width, height, text), *then)
        self.assertEqual(cursor(terminal), place + (False,))

    def test_within_a_text(self):
        for column, place in ((0, (0, 0)), (2, (0, 2)), (3, (1, 0)), (5, (1, 2))):
            self.check(6, 3, "abcdef" + at(0, column), (3, 3), place)

    def test_in_a_continued_row(self):
        for row, column, place in ((0, 1, (0, 1)), (1, 0, (0, 3)), (1, 1, (0, 4)), (1, 2, (1, 0)), (2, 0, (1, 1))):
            self.check(3, 4, "abcdefgh" + at(row, column), (5, 4), place)

    def test_behind_the_text(self):
        self.check(6, 3, "ab", (3, 3), (0, 2))
        self.check(6, 3, "abc", (3, 3), (0, 2))
        self.check(6, 3, "abcd", (3, 3), (1, 1))
        self.check(6, 3, "abc", (8, 3), (0, 3))

    def test_far_behind_the_text(self):
        terminal = resized(new(8, 3, "ab" + at(0, 6)), 3, 3)
        self.assertEqual((shown(terminal), cursor(terminal)), (["ab +", "   ", "   "], (1, 2, False)))
        terminal = resized(new(8, 3, "ab" + at(0, 7)), 3, 3)
        self.assertEqual((shown(terminal), cursor(terminal)), (["ab +", "   +", "   "], (2, 1, False)))
        self.assertEqual(texts(terminal), ["ab"])

    def test_far_behind_the_text_in_a_wider_terminal(self):
        terminal = resized(new(5, 3, "ab" + at(0, 4)), 9, 3)
        self.assertEqual((shown(terminal)[0], cursor(terminal)), ("ab       ", (0, 4, False)))

    def test_waiting(self):
        self.check(4, 3, "abcd", (6, 3), (0, 3))
        self.check(4, 3, "abcd", (3, 3), (1, 0))
        self.check(4, 3, "abcd", (4, 2), (0, 3))
        self.check(4, 3, "abcd", (2, 3), (1, 1))

    def test_waiting_behind_a_wide_character(self):
        self.check(4, 3, "ab" + WIDE, (6, 3), (0, 3))
        self.check(4, 3, "ab" + WIDE, (3, 3), (1, 1))

    def test_upon_halves(self):
        self.check(4, 3, "ab" + WIDE + at(0, 2), (3, 3), (1, 0))
        self.check(4, 3, "ab" + WIDE + at(0, 3), (3, 3), (1, 1))

    def test_upon_a_gap(self):
        self.check(3, 3, "ab" + WIDE + at(0, 2), (6, 3), (0, 2))
        self.check(3, 3, "ab" + WIDE + at(0, 2), (2, 3), (1, 0))
        self.check(3, 3, "ab" + WIDE + at(0, 2), (3, 2), (1, 0))

    def test_behind_a_gap(self):
        self.check(3, 3, "ab" + WIDE + "c" + at(1, 2), (6, 3), (0, 4))

    def test_in_an_empty_line(self):
        self.check(4, 4, "ab\r\n\r\ncd" + at(1, 0), (3, 4), (1, 0))
        self.check(4, 4, "ab\r\n\r\ncd" + at(1, 3), (2, 5), (2, 1))

    def test_in_blank_rows_below_the_text(self):
        terminal = resized(new(4, 5, "ab" + at(3, 2)), 3, 5)
        self.assertEqual((shown(terminal), cursor(terminal)), (["ab "] + ["   "] * 4, (3, 2, False)))
        terminal = resized(new(4, 5, "ab" + at(3, 3)), 3, 3)
        self.assertEqual((history(terminal), shown(terminal)), (["ab "], ["   "] * 3))
        self.assertEqual(cursor(terminal), (2, 2, False))

    def test_in_the_last_column_of_a_full_row(self):
        self.check(6, 3, "abcd" + at(0, 4), (4, 3), (0, 3))
        self.check(6, 3, "abcd" + at(0, 4), (2, 3), (1, 1))

    def test_blank_rows_above_the_text(self):
        self.check(4, 5, at(3, 1) + "x", (3, 2), (1, 2))

    def test_style_and_modes_stay(self):
        terminal = new(4, 3, CSI + "31m" + SET + "6h" + SET + "7l" + SET + "25l" + CSI + "4h\x1b]0;ab\x07")
        resized(terminal, 5, 2)
        state = terminal.state()
        self.assertEqual((state[7], state[9], state[12]), ((1, -1, 0), (False, True, True, False), (97, 98)))


class OtherPartsTest(unittest.TestCase):
    def test_the_same_size(self):
        for text in ("abc\n\nde\x1b7", "abcde", CSI + "2;3r" + at(2, 0) + "abcde", OTHER_ON + "abcde\x1b7",
                     CSI + "3g" + at(0, 3) + "\x1bH", "aaaaaaa" + CSI + "2D"):
            terminal = new(5, 4, text)
            before = terminal.state()
            self.assertEqual(resized(terminal, 5, 4).state(), before, text)

    def test_the_region(self):
        for size in ((5, 3), (6, 4), (2, 1), (9, 200)):
            terminal = resized(new(5, 4, CSI + "2;3r"), *size)
            self.assertEqual(terminal.state()[8], (0, size[1] - 1))

    def test_tab_columns(self):
        for text, before, then, expected in (
            ("", 20, 30, (8, 16, 24)), ("", 20, 17, (8, 16)), ("", 20, 16, (8,)), ("", 8, 9, (8,)),
            ("", 9, 8, ()), (CSI + "3g", 20, 30, (24,)), (CSI + "3g", 20, 26, (24,)), (CSI + "3g", 20, 10, ()),
            (at(0, 3) + "\x1bH", 20, 40, (3, 8, 16, 24, 32)), (at(0, 8) + CSI + "g", 20, 30, (16, 24)),
            ("\x1bH", 20, 25, (0, 8, 16, 24)), (at(0, 16) + CSI + "g", 17, 18, (8,)),
        ):
            self.assertEqual(resized(new(before, 2, text), then, 2).state()[10], expected, (text, before, then))

    def test_tab_columns_return(self):
        terminal = resized(resized(new(30, 2, CSI + "3g" + at(0, 20) + "\x1bH"), 10, 2), 30, 2)
        self.assertEqual(terminal.state()[10], (16, 24))

    def test_tab_columns_and_the_height(self):
        self.assertEqual(resized(new(20, 2, CSI + "3g"), 20, 5).state()[10], ())

    def test_saved_cursors(self):
        text = CSI + "31m" + at(4, 9) + "x\x1b7" + CSI + "m" + at(0, 0)
        for size, place in (((5, 3), (2, 4)), ((20, 3), (2, 9)), ((5, 9), (4, 4)), ((10, 6), (4, 9))):
            terminal = new(10, 5, text)
            self.assertEqual(terminal.state()[11][0], (4, 9, True, (1, -1, 0), False))
            resized(terminal, *size)
            self.assertEqual(terminal.state()[11], (place + (False, (1, -1, 0), False), None), size)

    def test_nothing_saved(self):
        self.assertEqual(resized(new(10, 5), 4, 4).state()[11], (None, None))

    def test_the_saved_cursor_of_the_other_screen(self):
        terminal = new(10, 5, OTHER_ON + at(4, 9) + "x\x1b7" + OTHER_OFF)
        resized(terminal, 6, 2)
        self.assertEqual(terminal.state()[11][1], (1, 5, False, PLAIN, False))

    def test_answers_and_the_parser_stay(self):
        terminal = new(5, 3, CSI + "5n" + CSI + "1;")
        resized(terminal, 6, 4)
        self.assertIs(terminal.resting(), False)
        feed(terminal, "3H")
        self.assertEqual((cursor(terminal), terminal.answers()), ((0, 2, False), [27, 91, 48, 110]))

    def test_the_limit_stays(self):
        terminal = resized(new(5, 1, limit=2), 6, 1)
        feed(terminal, "a\r\nb\r\nc\r\nd\r\ne")
        self.assertEqual(history(terminal), ["c     ", "d     "])


class OtherScreenTest(unittest.TestCase):
    def other(self, terminal):
        return marked(terminal.state()[4])

    def test_first_cells_and_first_rows_are_kept(self):
        for size, expected in (((3, 2), ["abc", "def"]), ((4, 1), ["abcd"]), ((6, 2), ["abcd  ", "defg  "]),
                               ((4, 4), ["abcd", "defg", "    ", "    "]), ((2, 3), ["ab", "de", "  "])):
            terminal = resized(new(4, 2, OTHER_ON + "abcd\r\ndefg"), *size)
            self.assertEqual((self.other(terminal), shown(terminal)), (expected, expected))

    def test_no_row_is_continued(self):
        for size in ((3, 3), (4, 4), (5, 3), (4, 2)):
            terminal = new(4, 3, OTHER_ON + "abcdefghij")
            self.assertEqual(self.other(terminal)[:2], ["abcd+", "efgh+"])
            self.assertNotIn("+", "".join(self.other(resized(terminal, *size))))

    def test_a_gap(self):
        for size, expected in (((5, 3), "ab   "), ((2, 3), "ab"), ((3, 2), "ab|"), ((4, 3), "ab  ")):
            terminal = resized(new(3, 3, OTHER_ON + CSI + "31m" + at(0, 0) + "ab" + WIDE), *size)
            self.assertEqual(self.other(terminal)[0], expected)
        self.assertEqual(terminal.state()[4][0][0][2:], (BLANK, BLANK))

    def test_half_a_character_is_cut(self):
        terminal = resized(new(4, 2, OTHER_ON + at(0, 0) + "a" + CSI + "31m" + WIDE), 2, 2)
        self.assertEqual(terminal.state()[4][0][0], ((97, PLAIN), (32, (1, -1, 0))))
        terminal = resized(new(4, 2, OTHER_ON + at(0, 0) + "a" + CSI + "31m" + WIDE), 3, 2)
        self.assertEqual(self.other(terminal)[0], "a" + W)

    def test_it_is_resized_while_it_is_not_shown(self):
        terminal = resized(new(4, 2, OTHER_ON + "abcd" + OTHER_OFF + "xyz"), 3, 3)
        self.assertEqual((self.other(terminal), shown(terminal)), (["abc", "   ", "   "], ["xyz", "   ", "   "]))

    def test_the_cursor(self):
        for size, place in (((3, 2), (1, 2)), ((10, 2), (1, 4)), ((3, 9), (3, 2)), ((5, 9), (3, 4)), ((6, 4), (3, 4))):
            terminal = new(5, 4, OTHER_ON + at(3, 4) + "x")
            self.assertEqual(cursor(terminal), (3, 4, True))
            self.assertEqual(cursor(resized(terminal, *size)), place + (False,), size)

    def test_the_mark_is_the_saved_cursor(self):
        for text, width, place in (("abcdef", 3, (1, 2)), ("abcdef" + at(0, 4), 3, (1, 1)),
                                   ("abc", 4, (0, 3)), ("ab" + at(0, 5), 3, (1, 2))):
            terminal = resized(new(6, 3, text + OTHER_ON + at(2, 0)), width, 3)
            self.assertEqual(terminal.state()[11], (place + (False, PLAIN, False), None), text)
            self.assertEqual(cursor(terminal), (2, 0, False))
            self.assertEqual(cursor(feed(terminal, OTHER_OFF)), place + (False,))

    def test_a_waiting_saved_cursor(self):
        terminal = resized(new(4, 3, "abcd" + OTHER_ON), 6, 3)
        self.assertEqual(terminal.state()[11][0], (0, 3, False, PLAIN, False))

    def test_style_and_origin_of_the_saved_cursor(self):
        terminal = resized(new(6, 3, CSI + "31m" + SET + "6habcd" + OTHER_ON + CSI + "m"), 3, 3)
        self.assertEqual(terminal.state()[11][0], (1, 1, False, (1, -1, 0), True))

    def test_the_saved_cursor_above_the_screen(self):
        terminal = resized(new(2, 4, "a\r\nb\r\nc\r\nd" + at(0, 1) + OTHER_ON), 2, 2)
        self.assertEqual(terminal.state()[11][0], (0, 0, False, PLAIN, False))

    def test_lines_behind_the_saved_cursor(self):
        terminal = resized(new(3, 4, "a" + OTHER_ON + at(3, 0)), 3, 2)
        self.assertEqual((history(terminal), marked(terminal.state()[3])), ([], ["a  ", "   "]))
        terminal = resized(new(3, 4, "a" + at(3, 0) + OTHER_ON + at(0, 0)), 3, 2)
        self.assertEqual((history(terminal), marked(terminal.state()[3])), (["a  ", "   "], ["   ", "   "]))

    def test_the_main_lines_are_laid_anew(self):
        terminal = resized(new(4, 2, "abcdefghij" + OTHER_ON), 5, 2)
        self.assertEqual(marked(terminal.state()[3]), ["abcde+", "fghij"])
        self.assertEqual(history(terminal), [])


class TextTest(unittest.TestCase):
    """Point 35."""

    def test_texts(self):
        for text, expected in (
            ("", []), ("abc", [[97, 98, 99]]), ("abcdef", [[97, 98, 99, 100, 101, 102]]),
            ("a\r\n\r\nb", [[97], [], [98]]), ("\r\n\na", [[], [], [97]]), ("a\r\n\n\n", [[97]]),
            ("a b", [[97, 32, 98]]), ("a   ", [[97]]), (WIDE + "a", [[20013, 97]]),
            ("abc" + WIDE, [[97, 98, 99, 20013]]), ("\r\n  \r\na", [[], [], [97]]),
        ):
            self.assertEqual(new(4, 5, text).text(), expected, text)

    def test_styled_spaces_count(self):
        self.assertEqual(new(4, 2, "a" + CSI + "7m  ").text(), [[97, 32, 32]])
        self.assertEqual(new(4, 2, CSI + "7m ").text(), [[32]])

    def test_the_history_counts(self):
        self.assertEqual(texts(new(2, 1, "a\r\nbbcc\r\nd")), ["a", "bbcc", "d"])
        self.assertEqual(texts(new(2, 1, "a\r\nbbcc\r\nd", limit=1)), ["cc", "d"])

    def test_an_emptied_screen_below_a_history(self):
        self.assertEqual(texts(new(2, 1, "aabb" + CSI + "2J")), ["aa"])
        self.assertEqual(texts(new(2, 1, "\r\n\r\n")), [])

    def test_the_other_screen_does_not_count(self):
        self.assertEqual(texts(new(4, 2, "ab" + OTHER_ON + "cd")), ["ab"])

    def test_a_returned_text_is_the_callers(self):
        terminal = new(4, 2, "ab")
        text = terminal.text()
        feed(terminal, "c")
        self.assertEqual(text, [[97, 98]])
        text[0].append(1)
        text.append([2])
        self.assertEqual(terminal.text(), [[97, 98, 99]])

    def test_resizing_does_not_change_it(self):
        for seed in range(120):
            width, height = ((2, 1), (5, 3), (8, 4), (11, 2))[seed % 4]
            terminal = new(width, height, limit=1000)
            for piece in drawn_text(seed, width, height, 25):
                feed(terminal, piece)
            text = terminal.text()
            for size in ((9, 4), (2, 9), (3, 1), (14, 7), (150, 3), (4, 110), (width, height)):
                resized(terminal, *size)
                self.assertEqual(terminal.text(), text, (seed, size))
                self.assertLess(len(terminal.state()[5]), 1000)
                check_sound(terminal, 1000, self)

    def test_spaces_are_told(self):
        self.assertEqual(lettered(new(4, 1, "a b").picture().rows[0]), "a b ")


if __name__ == "__main__":
    unittest.main()
