"""Points 19, 30 and 32: modes, both screens, titles, questions, and what has no effect."""

import unittest

from tests.terminals import (CSI, OTHER_OFF, OTHER_ON, PLAIN, SET, at, cursor, feed, history, new, shown)

NAMED = "@ABCDEFGHIJKLMPSTXZcdfghlmnrsu"


def modes(terminal):
    return terminal.state()[9]


def asked(text, width=20, height=6):
    """Returns the answers after a string, as a string."""
    return bytes(new(width, height, text).answers()).decode()


class ModeTest(unittest.TestCase):
    def test_on_and_off(self):
        for on, off, place in ((CSI + "4h", CSI + "4l", 2), (SET + "7h", SET + "7l", 0),
                               (SET + "25h", SET + "25l", 3), (SET + "6h", SET + "6l", 1)):
            terminal = new(5, 3)
            for text, expected in ((off, False), (off, False), (on, True), (on, True), (off, False)):
                feed(terminal, text)
                self.assertIs(modes(terminal)[place], expected)
            others = [flag for at, flag in enumerate(modes(terminal)) if at != place]
            self.assertEqual(others, [flag for at, flag in enumerate((True, False, False, True)) if at != place])

    def test_the_first_number_alone(self):
        self.assertEqual(modes(new(5, 3, SET + "7;25l")), (False, False, False, True))
        self.assertEqual(modes(new(5, 3, SET + "1;25l")), (True, False, False, True))
        self.assertEqual(modes(new(5, 3, CSI + "20;4h")), (True, False, False, True))
        self.assertEqual(modes(new(5, 3, CSI + "4;20h")), (True, False, True, True))

    def test_a_waiting_cursor_goes_on_waiting(self):
        for text in (CSI + "4h", CSI + "4l", SET + "7h", SET + "7l", SET + "25l", SET + "25h", CSI + "31m",
                     "\x1b7", "\x1bH", CSI + "6n", CSI + "c", "\x1b]0;a\x07", CSI + "s"):
            self.assertEqual(cursor(new(3, 2, "abc" + text)), (0, 2, True), text)

    def test_numbers_of_the_other_kind(self):
        for text in (SET + "4h", CSI + "6h", CSI + "7l", CSI + "25l", CSI + "1049h"):
            self.assertEqual(new(3, 2, "abc" + text).state(), new(3, 2, "abc").state(), text)


class OtherScreenTest(unittest.TestCase):
    def test_shown(self):
        terminal = new(5, 2, CSI + "31mabcdef" + OTHER_ON)
        state = terminal.state()
        self.assertEqual((state[2], shown(terminal), cursor(terminal)), (1, ["     ", "     "], (1, 1, False)))
        self.assertEqual(state[7], (1, -1, 0))
        self.assertEqual(state[11], ((1, 1, False, (1, -1, 0), False), None))
        self.assertEqual(state[3], new(5, 2, CSI + "31mabcdef").state()[3])

    def test_left(self):
        terminal = new(5, 2, CSI + "31mabcdef" + OTHER_ON + CSI + "32mxyz" + OTHER_OFF)
        self.assertEqual(terminal.state()[2], 0)
        self.assertEqual((shown(terminal), cursor(terminal)), (["abcde+", "f    "], (1, 1, False)))
        self.assertEqual(terminal.state()[7], (1, -1, 0))
        self.assertEqual(terminal.state()[4][1][0][1:4], ((120, (2, -1, 0)), (121, (2, -1, 0)), (122, (2, -1, 0))))

    def test_it_is_blank_each_time(self):
        terminal = new(3, 2, OTHER_ON + "abcdef" + OTHER_OFF)
        self.assertEqual([continued for _, continued in terminal.state()[4]], [True, False])
        feed(terminal, OTHER_ON)
        self.assertEqual(terminal.state()[4], new(3, 2).state()[4])

    def test_on_twice(self):
        terminal = new(3, 2, "a" + OTHER_ON + "b" + OTHER_ON)
        self.assertEqual((shown(terminal), cursor(terminal)), ([" b ", "   "], (0, 2, False)))
        self.assertEqual(terminal.state()[11][0], (0, 1, False, PLAIN, False))

    def test_on_twice_leaves_a_waiting_cursor(self):
        self.assertEqual(cursor(new(3, 2, OTHER_ON + "abc" + OTHER_ON)), (0, 2, True))

    def test_off_on_the_main_screen(self):
        terminal = new(3, 2, "a\x1b7bc" + OTHER_OFF)
        self.assertEqual((shown(terminal), cursor(terminal)), (["abc", "   "], (0, 2, True)))

    def test_a_waiting_cursor(self):
        terminal = new(3, 2, "abc" + OTHER_ON)
        self.assertEqual((cursor(terminal), terminal.state()[11][0]), ((0, 2, False), (0, 2, True, PLAIN, False)))
        feed(terminal, OTHER_OFF)
        self.assertEqual(cursor(terminal), (0, 2, True))

    def test_the_saved_cursor_is_saved_anew(self):
        terminal = new(3, 2, "\x1b7ab" + OTHER_ON + OTHER_OFF)
        self.assertEqual(cursor(terminal), (0, 2, False))

    def test_origin_is_restored(self):
        terminal = new(3, 4, CSI + "2;3r" + SET + "6h" + OTHER_ON)
        self.assertIs(modes(terminal)[1], True)
        feed(terminal, SET + "6l" + OTHER_OFF)
        self.assertEqual((modes(terminal)[1], cursor(terminal)), (True, (1, 0, False)))

    def test_other_parts_stay(self):
        terminal = new(20, 4, CSI + "2;3r" + SET + "7l" + CSI + "4h" + CSI + "3g\x1b]0;a\x07" + OTHER_ON)
        state = terminal.state()
        self.assertEqual((state[8:11], state[12]), (((1, 2), (False, False, True, True), ()), (97,)))

    def test_the_history_of_the_main_screen(self):
        terminal = new(3, 1, "a\r\nb" + OTHER_ON + "\r\nc\r\nd")
        self.assertEqual((history(terminal), shown(terminal)), (["a  "], ["d  "]))


class TitleTest(unittest.TestCase):
    def test_set(self):
        for text in ("\x1b]0;hi\x07", "\x1b]2;hi\x07", "\x1b]2;hi\x1b\\"):
            self.assertEqual(new(3, 1, text).state()[12], (104, 105))

    def test_set_again(self):
        self.assertEqual(new(3, 1, "\x1b]0;abc\x07\x1b]0;d\x07").state()[12], (100,))
        self.assertEqual(new(3, 1, "\x1b]0;abc\x07\x1b]0;\x07").state()[12], ())

    def test_other_strings(self):
        for text in ("\x1b]1;no\x07", "\x1b]no\x07", "\x1bP0;no\x07", "\x1b]0;no\x18"):
            self.assertEqual(new(3, 1, "\x1b]0;a\x07" + text).state()[12], (97,))

    def test_nothing_else_changes(self):
        terminal = new(3, 1, "abc\x1b]0;hi\x07")
        self.assertEqual(terminal.state()[:12], new(3, 1, "abc").state()[:12])


class AnswerTest(unittest.TestCase):
    def test_what_it_is(self):
        for text in ("c", "0c", ";5c"):
            self.assertEqual(asked(CSI + text), "\x1b[?6c")

    def test_whether_it_is_ready(self):
        self.assertEqual(asked(CSI + "5n"), "\x1b[0n")
        self.assertEqual(asked(CSI + "5;6n"), "\x1b[0n")

    def test_where_the_cursor_is(self):
        self.assertEqual(asked(CSI + "6n"), "\x1b[1;1R")
        self.assertEqual(asked(at(5, 18) + CSI + "6n"), "\x1b[6;19R")
        self.assertEqual(asked("abc" + CSI + "6n", width=3), "\x1b[1;3R")
        self.assertEqual(asked(at(149, 299) + CSI + "6n", 300, 150), "\x1b[150;300R")

    def test_where_the_cursor_is_with_origin(self):
        region = CSI + "3;5r"
        self.assertEqual(asked(region + SET + "6h" + CSI + "6n"), "\x1b[1;1R")
        self.assertEqual(asked(region + SET + "6h" + CSI + "2;4H" + CSI + "6n"), "\x1b[2;4R")
        self.assertEqual(asked(region + at(3, 3) + CSI + "6n"), "\x1b[4;4R")

    def test_where_the_cursor_is_above_the_region(self):
        # The region is set with the mode off; the saved cursor brings the mode back.
        for row, told in ((0, 1), (1, 1), (2, 1), (3, 2), (5, 4)):
            text = SET + "6h" + at(row, 4) + "\x1b7" + SET + "6l" + CSI + "3;5r\x1b8" + CSI + "6n"
            self.assertEqual(asked(text), f"\x1b[{told};5R", row)

    def test_other_numbers(self):
        for text in ("1c", "5c", "9999c", "n", "0n", "1n", "4n", "7n", "9999n"):
            self.assertEqual(asked(CSI + text), "", text)

    def test_private_questions(self):
        for text in (CSI + ">c", CSI + "?6n", CSI + "?5n", CSI + "=c", CSI + "<5n"):
            self.assertEqual(asked(text), "", text)

    def test_nothing_else_changes(self):
        for text in ("c", "5n", "6n"):
            self.assertEqual(new(3, 2, "abc" + CSI + text).state(), new(3, 2, "abc").state())

    def test_they_are_told_once(self):
        terminal = new(9, 2, CSI + "5n" + CSI + "c" + "ab" + CSI + "6n")
        self.assertEqual(bytes(terminal.answers()), b"\x1b[0n\x1b[?6c\x1b[1;3R")
        self.assertEqual(terminal.answers(), [])
        feed(terminal, CSI + "5n")
        self.assertEqual(terminal.answers(), [27, 91, 48, 110])
        self.assertEqual(terminal.answers(), [])

    def test_a_returned_list_is_the_callers(self):
        terminal = new(9, 2, CSI + "5n")
        first = terminal.answers()
        feed(terminal, CSI + "5n")
        self.assertEqual(first, [27, 91, 48, 110])
        first.append(1)
        first.clear()
        empty = terminal.answers()
        empty.append(1)
        terminal.answers().append(2)
        self.assertEqual(terminal.answers(), [])
        self.assertEqual(asked(CSI + "5n"), "\x1b[0n")
        self.assertEqual(asked(CSI + "c"), "\x1b[?6c")


class StyleTest(unittest.TestCase):
    """Byte 109."""

    def test_set(self):
        for text, style in (("1", (-1, -1, 1)), ("31;44;7", (1, 4, 8)), ("38;5;200;48;5;0", (200, 0, 0)),
                            ("4;38;2;1", (-1, -1, 2)), ("", PLAIN), ("1;", PLAIN), ("0", PLAIN), (";1", (-1, -1, 1))):
            self.assertEqual(new(3, 1, CSI + text + "m").state()[7], style, text)

    def test_changed(self):
        terminal = new(3, 1, CSI + "1;31m" + CSI + "4;42m")
        self.assertEqual(terminal.state()[7], (1, 2, 3))
        self.assertEqual(feed(terminal, CSI + "m").state()[7], PLAIN)

    def test_sixteen_numbers(self):
        self.assertEqual(new(3, 1, CSI + ";" * 15 + "1m").state()[7], (-1, -1, 1))
        self.assertEqual(new(3, 1, CSI + ";" * 16 + "1m").state()[7], PLAIN)

    def test_private(self):
        self.assertEqual(new(3, 1, CSI + "?1m" + CSI + ">4m").state()[7], PLAIN)


class NoEffectTest(unittest.TestCase):
    def setUp(self):
        self.text = "p\n\n" + CSI + "31m" + CSI + "2;3r" + at(1, 0) + "abcde\x1b7" + at(2, 0) + "\u4e2dfgh"

    def check(self, text):
        terminal = new(5, 4, self.text)
        before = terminal.state()
        self.assertIs(before[6][2], True)
        self.assertEqual(feed(terminal, text).state(), before, text)
        self.assertEqual(terminal.answers(), [])
        self.assertIs(terminal.resting(), True)

    def test_other_sequences(self):
        for byte in range(64, 127):
            if chr(byte) not in NAMED:
                for numbers in ("", "0", "1", "2", "3", "4", "5", "6", "7", "25", "1049", "2;3"):
                    self.check(CSI + numbers + chr(byte))

    def test_other_private_sequences(self):
        for byte in range(64, 127):
            for private in "?<=>":
                if private != "?" or chr(byte) not in "hl":
                    for numbers in ("", "1", "3", "4", "5", "6", "7", "25", "1049"):
                        self.check(CSI + private + numbers + chr(byte))

    def test_other_modes(self):
        for number in list(range(30)) + [1000, 1047, 1048, 1050, 2004, 9999]:
            for byte in "hl":
                if number not in (6, 7, 25):
                    self.check(f"{SET}{number}{byte}")
                if number != 4:
                    self.check(f"{CSI}{number}{byte}")

    def test_invalid_sequences(self):
        for text in ("1 @", "1!p", "2?J", "1:2m", "?1?h", "3$J"):
            self.check(CSI + text)

    def test_intermediate_bytes(self):
        for text in ("\x1b(B", "\x1b#8", "\x1b c", "\x1b(7", "\x1b(c"):
            self.check(text)


if __name__ == "__main__":
    unittest.main()
