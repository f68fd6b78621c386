"""Points 21, 28 and 29: controls and escapes."""

import unittest

from tests.terminals import CSI, OTHER_OFF, OTHER_ON, PLAIN, SET, at, cursor, feed, new, shown

RED = (1, -1, 0)


class ControlTest(unittest.TestCase):
    def test_back(self):
        for column, then in ((0, 0), (1, 0), (2, 1), (4, 3)):
            self.assertEqual(cursor(new(5, 3, at(1, column) + "\b")), (1, then, False))
        self.assertEqual(cursor(new(5, 3, "abcde\b")), (0, 3, False))

    def test_return(self):
        for column in range(5):
            self.assertEqual(cursor(new(5, 3, at(1, column) + "\r")), (1, 0, False))
        self.assertEqual(cursor(new(5, 3, "abcde\r")), (0, 0, False))

    def test_tab(self):
        for column, then in ((0, 8), (7, 8), (8, 16), (15, 16), (16, 19), (18, 19), (19, 19)):
            self.assertEqual(cursor(new(20, 2, at(1, column) + "\t")), (1, then, False), column)
        self.assertEqual(cursor(new(5, 2, "abcde\t")), (0, 4, False))
        self.assertEqual(cursor(new(17, 1, at(0, 9) + "\t")), (0, 16, False))
        self.assertEqual(cursor(new(400, 1, at(0, 100) + "\t")), (0, 104, False))

    def test_tab_to_other_columns(self):
        terminal = new(20, 1, CSI + "3g" + at(0, 5) + "\x1bH" + at(0, 0) + "\t")
        self.assertEqual(cursor(terminal), (0, 5, False))
        self.assertEqual(cursor(feed(terminal, "\t")), (0, 19, False))

    def test_tab_writes_nothing(self):
        self.assertEqual(shown(new(10, 1, "abc\r\tx")), ["abc     x "])

    def test_advance(self):
        for text in "\n\v\f":
            self.assertEqual(cursor(new(5, 3, at(0, 3) + text)), (1, 3, False))

    def test_others_have_no_effect(self):
        for byte in list(range(32)) + [127]:
            if byte not in (8, 9, 10, 11, 12, 13, 24, 26, 27):
                terminal = new(3, 2, CSI + "31mabc")
                before = terminal.state()
                terminal.feed([byte])
                self.assertEqual(terminal.state(), before, byte)
                self.assertEqual(terminal.answers(), [])

    def test_within_a_sequence(self):
        self.assertEqual(cursor(new(5, 3, CSI + "1\n;3H")), (0, 2, False))
        self.assertEqual(shown(new(5, 3, "\x1b\nDx")), ["     ", "     ", "x    "])


class EscapeTest(unittest.TestCase):
    def test_others_have_no_effect(self):
        strings = (80, 88, 91, 93, 94, 95)
        for byte in range(48, 127):
            if byte not in strings and byte not in (55, 56, 68, 69, 72, 77, 99):
                terminal = new(3, 2, CSI + "31mabc")
                before = terminal.state()
                terminal.feed([27, byte])
                self.assertEqual(terminal.state(), before, byte)
                self.assertEqual(terminal.answers(), [])

    def test_new_row(self):
        for text in ("", "abc"):
            terminal = new(3, 3, at(1, 1) + text + "\x1bE")
            self.assertEqual(cursor(terminal)[1:], (0, False))
        self.assertEqual(cursor(new(3, 3, at(1, 1) + "\x1bE")), (2, 0, False))
        self.assertEqual(shown(new(3, 2, "ab\r\ncd\x1bE")), ["cd ", "   "])

    def test_new_row_at_the_end_below_the_region(self):
        self.assertEqual(cursor(new(3, 3, CSI + "1;2r" + at(2, 2) + "x\x1bE")), (2, 0, False))

    def test_a_waiting_row_is_not_continued(self):
        self.assertEqual(shown(new(3, 2, "abc\x1bEd")), ["abc", "d  "])

    def test_set_a_tab_column(self):
        for column in (0, 1, 8, 19):
            terminal = new(20, 1, at(0, column) + "\x1bH")
            self.assertEqual(terminal.state()[10], tuple(sorted({8, 16, column})))
            self.assertEqual(cursor(terminal), (0, column, False))

    def test_set_a_tab_column_while_the_cursor_waits(self):
        terminal = new(3, 1, "abc\x1bH")
        self.assertEqual((terminal.state()[10], cursor(terminal)), ((2,), (0, 2, True)))


class SaveTest(unittest.TestCase):
    """Escapes 55 and 56, and sequences 115 and 117."""

    WAYS = (("\x1b7", "\x1b8"), (CSI + "s", CSI + "u"), ("\x1b7", CSI + "u"), (CSI + "9s", CSI + "9u"))

    def test_saved(self):
        for save, _ in self.WAYS:
            terminal = new(5, 3, CSI + "31m" + at(1, 3) + save)
            self.assertEqual(terminal.state()[11], ((1, 3, False, RED, False), None))
            self.assertEqual(cursor(terminal), (1, 3, False))

    def test_restored(self):
        for save, restore in self.WAYS:
            terminal = new(5, 3, CSI + "31m" + at(1, 3) + save + CSI + "32m" + at(2, 1) + restore)
            self.assertEqual((cursor(terminal), terminal.state()[7]), ((1, 3, False), RED))
            self.assertEqual(terminal.state()[11], ((1, 3, False, RED, False), None))

    def test_waiting(self):
        terminal = new(3, 2, "abc\x1b7\rx")
        self.assertEqual(terminal.state()[11][0], (0, 2, True, PLAIN, False))
        self.assertEqual(cursor(feed(terminal, "\x1b8")), (0, 2, True))
        self.assertEqual(shown(feed(terminal, "d")), ["xbc+", "d  "])

    def test_not_waiting(self):
        terminal = new(3, 2, at(0, 2) + "\x1b7" + "c\x1b8")
        self.assertEqual(cursor(terminal), (0, 2, False))

    def test_origin(self):
        terminal = new(5, 4, CSI + "2;3r" + SET + "6h\x1b7" + SET + "6l")
        self.assertEqual(terminal.state()[11][0], (1, 0, False, PLAIN, True))
        self.assertEqual(terminal.state()[9][1], False)
        feed(terminal, "\x1b8")
        self.assertEqual((terminal.state()[9][1], cursor(terminal)), (True, (1, 0, False)))

    def test_other_modes_are_not_saved(self):
        terminal = new(5, 4, "\x1b7" + SET + "7l" + SET + "25l" + CSI + "4h" + CSI + "2;3r\x1b8")
        self.assertEqual((terminal.state()[9], terminal.state()[8]), ((False, False, True, False), (1, 2)))

    def test_nothing_saved(self):
        for _, restore in self.WAYS:
            terminal = new(5, 4, CSI + "31;1m" + CSI + "2;3r" + SET + "6habcde" + restore)
            self.assertEqual((cursor(terminal), terminal.state()[7]), ((0, 0, False), PLAIN))
            self.assertEqual(terminal.state()[9], (True, False, False, True))
            self.assertEqual(terminal.state()[11], (None, None))

    def test_each_screen_has_its_own(self):
        terminal = new(5, 3, at(1, 1) + OTHER_ON + at(2, 2) + CSI + "31m\x1b7" + at(0, 0) + CSI + "m")
        self.assertEqual(terminal.state()[11], ((1, 1, False, PLAIN, False), (2, 2, False, RED, False)))
        feed(terminal, "\x1b8")
        self.assertEqual((cursor(terminal), terminal.state()[7]), ((2, 2, False), RED))
        feed(terminal, OTHER_OFF)
        self.assertEqual((cursor(terminal), terminal.state()[7]), ((1, 1, False), PLAIN))
        feed(terminal, OTHER_ON + at(0, 4) + "\x1b8")
        self.assertEqual(cursor(terminal), (2, 2, False))

    def test_nothing_saved_on_the_other_screen(self):
        terminal = new(5, 3, at(1, 1) + "\x1b7" + OTHER_ON + CSI + "31m\x1b8")
        self.assertEqual((cursor(terminal), terminal.state()[7]), ((0, 0, False), PLAIN))

    def test_saved_again(self):
        terminal = new(5, 3, at(1, 1) + "\x1b7" + at(2, 2) + "\x1b7" + at(0, 0) + "\x1b8")
        self.assertEqual(cursor(terminal), (2, 2, False))


if __name__ == "__main__":
    unittest.main()
