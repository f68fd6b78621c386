"""Points 48, 49, 51 and 55: the terminals of panes, their sizes, and the input of panes."""

import unittest
from unittest.mock import patch

from manypanes.session import Session
from manypanes.terminal import Terminal
from tests.sessions import BELOW, BESIDE, numbers, opened, shown
from tests.terminals import CSI, OTHER_OFF, OTHER_ON, coded, feed, new


def sizes(session, *panes):
    return [(session.screen(pane).width, session.screen(pane).height) for pane in panes]


class SizeTest(unittest.TestCase):
    def test_terminals_have_the_sizes_of_their_boxes(self):
        session = Session(30, 12)
        session.divide(1, BESIDE)
        session.divide(2, BELOW)
        session.divide(1, BELOW)
        for step in (lambda: session.border(1, BESIDE, 3), lambda: session.border(4, BESIDE, -9),
                     lambda: session.border(2, BELOW, 9), lambda: session.focus(1), lambda: session.close(4),
                     lambda: session.attach(50, 20), lambda: session.attach(7, 7), lambda: session.detach(1)):
            step()
            for pane, _, _, width, height in session.places():
                self.assertEqual(sizes(session, pane), [(width, height)])

    def test_windows_that_are_not_shown_are_fitted_too(self):
        session = Session(31, 12)
        session.divide(1, BESIDE)
        session.window()
        client = session.attach(11, 5)
        self.assertEqual(sizes(session, 1, 2, 3), [(5, 4), (5, 4), (11, 4)])
        session.refit(client, 41, 9)
        self.assertEqual(sizes(session, 1, 2, 3), [(20, 8), (20, 8), (41, 8)])
        session.show(0)
        self.assertEqual(session.places(), [(1, 0, 0, 20, 8), (2, 0, 21, 20, 8)])

    def test_zoomed_windows_that_are_not_shown(self):
        session = Session(31, 12)
        session.divide(1, BESIDE)
        session.zoom()
        session.window()
        client = session.attach(11, 5)
        self.assertEqual(sizes(session, 1, 2), [(5, 4), (11, 4)])
        session.detach(client)
        session.close(1)
        self.assertEqual(sizes(session, 2), [(11, 4)])

    def test_a_layout_larger_than_its_area(self):
        session = Session(30, 12)
        session.divide(1, BESIDE)
        session.divide(2, BESIDE)
        session.divide(3, BELOW)
        session.attach(3, 3)
        self.assertEqual(session.places(), [(1, 0, 0, 2, 3), (2, 0, 3, 2, 3), (3, 0, 6, 2, 1), (4, 2, 6, 2, 1)])
        self.assertEqual(sizes(session, 1, 2, 3, 4), [(2, 3), (2, 3), (2, 1), (2, 1)])
        # The focused pane of a zoomed window has the size of the area.
        session.zoom()
        self.assertEqual((session.places(), sizes(session, 4)), ([(4, 0, 0, 3, 2)], [(3, 2)]))

    def test_sizes_depend_on_those_before(self):
        session = Session(31, 12)
        session.divide(1, BESIDE)
        session.border(1, BESIDE, 10)
        client = session.attach(5, 4)
        self.assertEqual(session.places(), [(1, 0, 0, 2, 3), (2, 0, 3, 2, 3)])
        session.refit(client, 31, 12)
        self.assertEqual(session.places(), [(1, 0, 0, 15, 11), (2, 0, 16, 15, 11)])

    def test_terminals_are_resized(self):
        session = opened(9, 4, "abcdefghijkl")
        alone = new(9, 3, "abcdefghijkl")
        session.divide(1, BESIDE)
        alone.resize(4, 3)
        self.assertEqual(session.screen(1), alone.picture())
        session.close(2)
        alone.resize(9, 3)
        self.assertEqual(session.screen(1), alone.picture())
        self.assertEqual(shown(session), ["abcdefghi", "jkl      ", "         "])

    def test_a_terminal_whose_size_stays_is_not_resized(self):
        # Resizing would end the waiting and the region.
        session = opened(9, 4, CSI + "1;2r" + "abcdefghi")
        session.zoom()
        session.zoom()
        session.window()
        session.show(0)
        session.attach(9, 4)
        session.focus(1)
        session.border(1, BELOW, 1)
        session.write(1, coded("xyz\r\n"))
        self.assertEqual(shown(session), ["xyz      ", "         ", "         "])

    def test_the_title_and_the_modes_stay(self):
        session = opened(20, 4, "\x1b]0;name\x07" + CSI + "4h" + CSI + "31m" + CSI + "?25l")
        session.divide(1, BESIDE)
        session.close(2)
        session.write(1, coded("ab\rc"))
        self.assertEqual(session.picture().rows[0][:3], [(99, (1, -1, 0)), (97, (1, -1, 0)), (98, (1, -1, 0))])
        self.assertFalse(session.picture().visible)


class OnceTest(unittest.TestCase):
    """Where a terminal that keeps no history passes a small size on its way to a large one, it loses text."""

    TEXT = "abcdefghijklmnopqrst"

    def test_width_and_height_at_once(self):
        session = opened(20, 2, self.TEXT, limit=0)
        session.attach(5, 5)
        self.assertEqual(shown(session), ["abcde", "fghij", "klmno", "pqrst"])
        session = opened(5, 5, self.TEXT, limit=0)
        session.attach(20, 2)
        self.assertEqual(shown(session), [self.TEXT])

    def test_attaching_and_detaching(self):
        session = opened(5, 5, self.TEXT, limit=0)
        session.attach(20, 5)
        session.attach(5, 9)
        self.assertEqual(shown(session), ["abcde", "fghij", "klmno", "pqrst"])
        session.detach(2)
        self.assertEqual(shown(session)[0], self.TEXT)

    def test_moving_the_border_of_a_zoomed_window(self):
        session = opened(23, 2, self.TEXT, limit=0)
        session.divide(1, BESIDE)
        session.border(1, BESIDE, 99)
        session.focus(1)
        session.zoom()
        session.write(1, coded("\r" + self.TEXT))
        session.border(1, BESIDE, 0)
        self.assertEqual(shown(session), [self.TEXT + "|  "])
        session.zoom()
        session.border(1, BESIDE, -99)
        session.zoom()
        session.write(1, coded("\r" + self.TEXT))
        # From the area to twenty columns, not by way of the two of its box.
        session.border(1, BESIDE, 18)
        self.assertEqual(shown(session), [self.TEXT + "|  "])

    def test_closing_in_a_zoomed_window(self):
        session = opened(23, 2, self.TEXT, limit=0)
        session.divide(1, BESIDE)
        session.border(1, BESIDE, -99)
        session.focus(1)
        session.zoom()
        session.write(1, coded("\r" + self.TEXT))
        session.close(2)
        self.assertEqual(shown(session), [self.TEXT + "   "])

    def test_clients_in_a_zoomed_window(self):
        session = opened(23, 2, self.TEXT, limit=0)
        session.divide(1, BESIDE)
        session.border(1, BESIDE, -99)
        session.focus(1)
        session.zoom()
        session.write(1, coded("\r" + self.TEXT))
        session.attach(20, 2)
        self.assertEqual(shown(session), [self.TEXT])

    def test_each_terminal_is_resized_at_most_once(self):
        resized = []

        def noting(terminal, width, height):
            if terminal.state()[:2] != (width, height):
                resized.append(id(terminal))
            resize(terminal, width, height)

        resize = Terminal.resize
        session = Session(40, 20)
        calls = [("divide", 1, BESIDE), ("divide", 2, BELOW), ("zoom",), ("divide", 3, BESIDE), ("zoom",), ("focus", 1),
                 ("border", 1, BESIDE, 5), ("attach", 30, 11), ("zoom",), ("attach", 12, 30), ("detach", 1), ("zoom",),
                 ("focus", 3), ("zoom",), ("window",), ("refit", 2, 60, 9), ("show", 0), ("close", 2), ("close", 3),
                 ("close", 5)]
        with patch.object(Terminal, "resize", noting):
            for name, *values in calls:
                resized.clear()
                getattr(session, name)(*values)
                self.assertEqual(len(resized), len(set(resized)), name)


class HistoryTest(unittest.TestCase):
    TEXT = "a\r\nb\r\nc\r\nd\r\ne\r\nf"

    def test_scrolling_back(self):
        for rows, expected in ((0, "def"), (1, "cde"), (2, "bcd"), (3, "abc"), (4, "abc"), (999999999, "abc")):
            session = opened(4, 4, self.TEXT)
            session.back(1, rows)
            self.assertEqual("".join(shown(session)).replace(" ", ""), expected)

    def test_the_number_is_kept(self):
        session = opened(4, 4, self.TEXT)
        session.back(1, 5)
        self.assertEqual(shown(session)[0], "a   ")
        session.write(1, coded("\r\ng\r\nh"))
        self.assertEqual(shown(session)[0], "a   ")
        session.write(1, coded("\r\ni"))
        self.assertEqual(shown(session)[0], "b   ")
        session.press([97])
        self.assertEqual(shown(session)[0], "b   ")
        session.back(1, 0)
        self.assertEqual(shown(session), ["g   ", "h   ", "i   "])

    def test_the_history_is_emptied(self):
        session = opened(4, 4, self.TEXT)
        session.back(1, 2)
        session.write(1, coded(CSI + "3J"))
        self.assertEqual(shown(session), ["d   ", "e   ", "f   "])
        self.assertTrue(session.picture().visible)
        session.write(1, coded("\r\ng"))
        self.assertEqual(shown(session), ["d   ", "e   ", "f   "])
        self.assertFalse(session.picture().visible)

    def test_while_the_other_screen_is_shown(self):
        session = opened(4, 4, self.TEXT)
        session.back(1, 2)
        session.write(1, coded(OTHER_ON + "x"))
        self.assertEqual(shown(session), ["    ", "    ", " x  "])
        self.assertEqual((session.picture().cursor, session.picture().visible), ((2, 2), True))
        session.back(1, 1)
        self.assertEqual(shown(session), ["    ", "    ", " x  "])
        session.write(1, coded(OTHER_OFF))
        self.assertEqual(shown(session), ["c   ", "d   ", "e   "])
        self.assertFalse(session.picture().visible)

    def test_while_not_shown(self):
        session = opened(4, 4, self.TEXT)
        session.window()
        session.back(1, 2)
        session.write(1, coded("\r\ng"))
        self.assertEqual(shown(session), ["    "] * 3)
        session.show(0)
        self.assertEqual(shown(session), ["c   ", "d   ", "e   "])

    def test_each_pane_on_its_own(self):
        session = opened(9, 4, self.TEXT)
        session.divide(1, BESIDE)
        session.write(2, coded("u\r\nv\r\nw\r\nx\r\ny"))
        session.back(1, 1)
        session.back(2, 2)
        self.assertEqual(shown(session), ["c   |u   ", "d   |v   ", "e   |w   "])
        session.back(1, 0)
        self.assertEqual(shown(session), ["d   |u   ", "e   |v   ", "f   |w   "])

    def test_after_resizing(self):
        session = opened(4, 3, "abcdefghijkl")
        session.back(1, 1)
        self.assertEqual(shown(session), ["abcd", "efgh"])
        session.attach(2, 3)
        self.assertEqual(shown(session), ["gh", "ij"])
        session.refit(1, 12, 3)
        self.assertEqual(shown(session), ["abcdefghijkl", " " * 12])

    def test_zoomed(self):
        session = opened(9, 4, self.TEXT)
        session.divide(1, BESIDE)
        session.focus(1)
        session.back(1, 1)
        session.zoom()
        self.assertEqual(shown(session), ["c        ", "d        ", "e        "])

    def test_gaps_in_the_history(self):
        session = opened(3, 3, "ab\u4e2dcd\u4e2de")
        session.back(1, 2)
        self.assertEqual(shown(session), ["ab ", "\u4e2d<c"])

    def test_the_screen_is_not_scrolled_back(self):
        session = opened(4, 4, self.TEXT)
        before = session.screen(1)
        session.back(1, 2)
        self.assertEqual(session.screen(1), before)
        self.assertEqual(session.screen(1), new(4, 3, self.TEXT).picture())


class InputTest(unittest.TestCase):
    def test_keys_and_answers_in_order(self):
        session = Session(9, 4)
        session.press([1, 2])
        session.write(1, coded("ab" + CSI + "6n"))
        session.press([3])
        session.write(1, coded(CSI + "c" + CSI + "5n"))
        session.press([])
        session.press([4, 255])
        answers = coded(CSI + "1;3R"), coded(CSI + "?6c" + CSI + "0n")
        self.assertEqual(session.taken(1), [1, 2] + answers[0] + [3] + answers[1] + [4, 255])
        self.assertEqual(session.taken(1), [])

    def test_only_once(self):
        session = Session(9, 4)
        self.assertEqual(session.taken(1), [])
        session.press([1])
        self.assertEqual(session.taken(1), [1])
        session.press([2])
        self.assertEqual(session.taken(1), [2])

    def test_the_list_may_be_changed(self):
        session = Session(9, 4)
        session.press([1])
        session.taken(1).append(9)
        session.press([2])
        found = session.taken(1)
        self.assertEqual(found, [2])
        found.append(9)
        self.assertEqual(session.taken(1), [])

    def test_keys_go_to_the_pane_that_is_focused_then(self):
        session = Session(20, 9)
        session.press([1])
        session.divide(1, BESIDE)
        session.press([2])
        session.window()
        session.press([3])
        session.show(0)
        session.press([4])
        session.focus(1)
        session.zoom()
        session.press([5])
        session.focus(2)
        session.press([6])
        session.close(2)
        session.press([7])
        self.assertEqual((session.taken(1), session.taken(3)), ([1, 5, 7], [3]))

    def test_keys_are_not_shown(self):
        session = Session(9, 4)
        before = session.picture()
        session.press([97, 98])
        self.assertEqual(session.picture(), before)

    def test_answers_of_panes_that_are_not_focused_or_shown(self):
        session = Session(20, 9)
        session.divide(1, BESIDE)
        session.window()
        for pane in (1, 2, 3):
            session.write(pane, coded(f"\x1b[{pane};{pane}H" + CSI + "6n"))
        for pane in (1, 2, 3):
            self.assertEqual(session.taken(pane), coded(CSI + f"{pane};{pane}R"))

    def test_answers_stay_when_a_terminal_becomes_new(self):
        session = opened(9, 4, CSI + "5n", "\x1bc", CSI + "5n\x1bc")
        self.assertEqual(session.taken(1), coded(CSI + "0n") * 2)

    def test_cut_bytes(self):
        session = Session(9, 4)
        for byte in coded("\u4e2d" + CSI + "6n"):
            session.write(1, [byte])
        self.assertEqual(session.taken(1), coded(CSI + "1;3R"))
        self.assertEqual(shown(session)[0], "\u4e2d<       ")


class WriteTest(unittest.TestCase):
    def test_a_terminal_alone(self):
        text = "abc\u4e2d\r\n" + CSI + "7mxyz" + "\t" + CSI + "2;2H" + CSI + "Kq"
        session = opened(9, 4, text)
        self.assertEqual(session.screen(1), new(9, 3, text).picture())

    def test_nothing(self):
        session = Session(9, 4)
        session.write(1, [])
        self.assertEqual(session.screen(1), Terminal(9, 3).picture())

    def test_after_a_split(self):
        session = opened(9, 4, "abcdef")
        session.divide(1, BESIDE)
        session.write(1, coded("ghi"))
        alone = new(9, 3, "abcdef")
        alone.resize(4, 3)
        self.assertEqual(session.screen(1), feed(alone, "ghi").picture())
        self.assertEqual(numbers(session), [1, 2])


if __name__ == "__main__":
    unittest.main()
