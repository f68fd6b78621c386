"""Points 2, 18 to 20 and 38: new terminals, and terminals that become new."""

import unittest

from tests.terminals import (BLANK, CSI, OTHER_ON, PLAIN, SET, check_sound, coded, drawn_bytes, drawn_text,
                             feed, history, new)

SIZES = [(2, 1), (2, 5), (3, 2), (8, 1), (9, 3), (17, 4), (80, 24), (150, 3), (4, 130), (400, 200)]


def fresh_state(width, height):
    """Returns the state of point 20."""
    rows = (((BLANK,) * width, False),) * height
    tabs = tuple(column for column in range(1, width) if column % 8 == 0)
    return (width, height, 0, rows, rows, (), (0, 0, False), PLAIN, (0, height - 1),
            (True, False, False, True), tabs, (None, None), ())


class NewTest(unittest.TestCase):
    def test_each_size(self):
        for width, height in SIZES:
            for limit in (0, 1, 100, 1000):
                terminal = new(width, height, limit=limit)
                self.assertEqual(terminal.state(), fresh_state(width, height))
                self.assertEqual(terminal.answers(), [])
                self.assertEqual(terminal.text(), [])
                self.assertIs(terminal.resting(), True)

    def test_tab_columns(self):
        self.assertEqual(new(8, 1).state()[10], ())
        self.assertEqual(new(9, 1).state()[10], (8,))
        self.assertEqual(new(25, 1).state()[10], (8, 16, 24))

    def test_kinds(self):
        terminal = new(4, 2, "ab\r\n\n" + OTHER_ON + "\x1b7")
        state = terminal.state()
        for part in state[3:]:
            self.assertIs(type(part), tuple)
        for rows in state[3:6]:
            for row in rows:
                self.assertEqual([type(part) for part in row], [tuple, bool])
        self.assertEqual([type(flag) for flag in state[9]], [bool] * 4)
        self.assertEqual([type(part) for part in state[6]], [int, int, bool])
        for saved in state[11]:
            self.assertEqual([type(part) for part in saved], [int, int, bool, tuple, bool])
        self.assertIs(type(terminal.answers()), list)
        self.assertIs(type(terminal.text()), list)

    def test_feed_and_resize_return_none(self):
        terminal = new(4, 2)
        self.assertIsNone(terminal.feed([97]))
        self.assertIsNone(terminal.resize(4, 2))
        self.assertIsNone(terminal.resize(5, 2))

    def test_the_limit_is_a_hundred(self):
        from manypanes.terminal import Terminal
        terminal = Terminal(2, 1)
        terminal.feed([97, 10, 13] * 150)
        self.assertEqual(len(terminal.state()[5]), 100)

    def test_the_limit_is_passed_by_keyword(self):
        from manypanes.terminal import Terminal
        with self.assertRaises(TypeError):
            Terminal(2, 1, 5)


class RenewedTest(unittest.TestCase):
    def check(self, terminal, width, height, case):
        terminal.feed([24, 27, 99])
        self.assertEqual(terminal.state(), fresh_state(width, height), case)
        self.assertIs(terminal.resting(), True)
        self.assertEqual(terminal.text(), [])

    def test_each_part_of_the_state(self):
        for text in ["abc", "\n\n\n\n\n", "\x1b7", OTHER_ON, OTHER_ON + "ab\x1b7", CSI + "31m", CSI + "1;2r",
                     SET + "6h", SET + "7l", SET + "25l", CSI + "4h", CSI + "3g", CSI + "3C\x1bH",
                     "\x1b]0;abc\x07", "aaaaaaaaa", "aaaa\u4e2d", "\u4e2d" * 30]:
            self.check(new(9, 3, text), 9, 3, text)

    def test_inside_of_anything(self):
        for data in ([27], [27, 91], [27, 91, 49, 59], [27, 32], [27, 93, 48, 59, 65], [27, 80, 1],
                     [27, 93, 27], [240, 159], [195], [27, 91, 49, 63], [24], [27, 27]):
            terminal = new(5, 2, "abc")
            terminal.feed(data)
            self.check(terminal, 5, 2, data)

    def test_any_state(self):
        for seed in range(40):
            width, height = SIZES[seed % 7]
            terminal = new(width, height, "".join(drawn_text(seed, width, height, 60)))
            terminal.feed(drawn_bytes(seed, 40))
            self.check(terminal, width, height, seed)

    def test_at_the_end_of_a_resizing(self):
        terminal = new(9, 3, "abc\n\n\n" + CSI + "3g")
        terminal.resize(20, 5)
        self.check(terminal, 20, 5, None)

    def test_answers_stay(self):
        terminal = new(5, 2, CSI + "5n")
        self.check(terminal, 5, 2, None)
        feed(terminal, CSI + "5n")
        self.assertEqual(terminal.answers(), [27, 91, 48, 110] * 2)

    def test_the_limit_stays(self):
        for limit in (0, 2, 7):
            terminal = new(3, 1, "a\r\nb\r\nc\r\nd", limit=limit)
            self.check(terminal, 3, 1, limit)
            feed(terminal, "".join(f"{letter}\r\n" for letter in "abcdefghij"))
            self.assertEqual(history(terminal), [f"{letter}  " for letter in "defghij"][7 - limit:])

    def test_further_bytes_act_as_in_a_new_one(self):
        for seed in range(40):
            width, height = SIZES[seed % 7]
            worn = new(width, height, "".join(drawn_text(seed, width, height, 40)))
            worn.answers()
            worn.feed([24, 27, 99])
            unused = new(width, height)
            for text in drawn_text(seed + 1000, width, height, 40):
                feed(worn, text)
                feed(unused, text)
                self.assertEqual(worn.state(), unused.state())
            self.assertEqual(worn.answers(), unused.answers())
            check_sound(worn, 100, self)

    def test_escape_99_in_the_midst(self):
        terminal = new(5, 2, "abc" + CSI + "31m\x1bcd")
        self.assertEqual(terminal.state(), new(5, 2, "d").state())
        self.assertEqual(coded("\x1bc"), [27, 99])


if __name__ == "__main__":
    unittest.main()
