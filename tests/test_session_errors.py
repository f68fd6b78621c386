"""Points 1, 47 and 50: each error, its class, and that nothing changes behind it."""

import random
import unittest

from manypanes.errors import LastPane, NoClient, NoPane, NoRoom, NoWindow
from manypanes.session import Session
from tests.sessions import BELOW, BESIDE, opened, pulled, told
from tests.terminals import coded

NONE = (0, -1, -999999999, 7, 999999999)


def busy():
    """Returns a session with panes 1, 2 and 4 in a window and pane 5 in another one; pane 3 was closed."""
    session = opened(24, 11, "\x1b]0;first\x07one\r\ntwo")
    session.divide(1, BESIDE)
    session.divide(2, BELOW)
    session.close(3)
    session.divide(2, BELOW)
    session.window()
    session.write(5, coded("other window"))
    session.show(0)
    session.focus(1)
    return session


class ErrorCase(unittest.TestCase):
    def check(self, session, error, name, *values):
        """Checks that a call raises an error of this class alone and changes nothing."""
        panes = [pane for pane in range(1, 7) if self.is_pane(session, pane)]
        before = told(session, panes)
        with self.assertRaises(error) as caught:
            getattr(session, name)(*values)
        self.assertIs(type(caught.exception), error)
        self.assertEqual(told(session, panes), before)

    def is_pane(self, session, pane):
        try:
            session.screen(pane)
        except NoPane:
            return False
        return True

    def check_numbers(self, session, pane, client):
        """Checks the numbers of the next pane, window's pane and client."""
        self.assertEqual(session.divide(1, BESIDE), pane)
        self.assertEqual(session.window(), pane + 1)
        self.assertEqual(session.attach(20, 9), client)


class PaneTest(ErrorCase):
    CALLS = [("write", [97]), ("taken",), ("divide", BESIDE), ("divide", BELOW), ("close",), ("focus",),
             ("border", BESIDE, 1), ("back", 1), ("screen",)]
    IN_THE_CURRENT_WINDOW = [("divide", BESIDE), ("divide", BELOW), ("focus",), ("border", BESIDE, 1)]

    def test_panes_that_never_were_or_were_closed(self):
        for zoomed in (False, True):
            session = busy()
            if zoomed:
                session.zoom()
            for name, *values in self.CALLS:
                for pane in NONE + (3, 6):
                    self.check(session, NoPane, name, pane, *values)
            self.assertEqual(len(session.places()), 1 if zoomed else 3)
            self.check_numbers(session, 6, 1)

    def test_panes_of_another_window(self):
        for zoomed in (False, True):
            session = busy()
            if zoomed:
                session.zoom()
            for name, *values in self.IN_THE_CURRENT_WINDOW:
                self.check(session, NoPane, name, 5, *values)
            session.show(1)
            for name, *values in self.IN_THE_CURRENT_WINDOW:
                for pane in (1, 2, 4):
                    self.check(session, NoPane, name, pane, *values)
            session.show(0)
            self.assertEqual(len(session.places()), 1 if zoomed else 3)
            self.check_numbers(session, 6, 1)

    def test_other_calls_take_panes_of_another_window(self):
        session = busy()
        session.write(5, [97])
        session.back(5, 1)
        self.assertEqual(session.taken(5), [])
        self.assertEqual(session.screen(5).width, 24)
        session.close(5)
        for name, *values in self.CALLS:
            self.check(session, NoPane, name, 5, *values)

    def test_no_pane_comes_before_no_room(self):
        session = Session(4, 3)
        session.window()
        session.show(0)
        self.check(session, NoPane, "divide", 2, BESIDE)
        self.check(session, NoRoom, "divide", 1, BESIDE)

    def test_input_stays(self):
        session = busy()
        session.press([1, 2])
        session.write(5, coded("\x1b[5n"))
        for pane in NONE:
            self.check(session, NoPane, "taken", pane)
        self.assertEqual((session.taken(1), session.taken(5)), ([1, 2], coded("\x1b[0n")))

    def test_scrolling_back_stays(self):
        session = opened(9, 3, "a\r\nb\r\nc\r\nd")
        session.back(1, 2)
        for pane in NONE:
            self.check(session, NoPane, "back", pane, 0)


class RoomTest(ErrorCase):
    def test_below_the_least_sizes(self):
        for width, height, direction in ((4, 40, BESIDE), (2, 40, BESIDE), (40, 3, BELOW), (40, 2, BELOW)):
            for zoomed in (False, True):
                session = Session(width, height)
                session.write(1, coded("text"))
                if zoomed:
                    session.zoom()
                self.check(session, NoRoom, "divide", 1, direction)
                other = BELOW if direction == BESIDE else BESIDE
                self.assertEqual(session.divide(1, other), 2)

    def test_the_box_counts_in_a_zoomed_window(self):
        session = Session(10, 6)
        session.divide(1, BESIDE)
        session.zoom()
        self.check(session, NoRoom, "divide", 2, BESIDE)
        self.assertEqual(session.places(), [(2, 0, 0, 10, 5)])
        self.assertEqual(session.screen(2).width, 10)
        session.press([97])
        self.assertEqual(session.taken(2), [97])
        self.assertEqual(session.divide(1, BESIDE), 3)

    def test_many_failures(self):
        session = Session(5, 4)
        session.divide(1, BESIDE)
        for _ in range(5):
            for pane in (1, 2):
                self.check(session, NoRoom, "divide", pane, BESIDE)
        self.assertEqual(session.divide(1, BELOW), 3)
        self.check(session, NoRoom, "divide", 3, BELOW)
        self.assertEqual(session.window(), 4)


class LastPaneTest(ErrorCase):
    def test_the_last_pane(self):
        for zoomed in (False, True):
            session = opened(9, 4, "\x1b]0;name\x07text\x1b[5n")
            session.press([97])
            if zoomed:
                session.zoom()
            self.check(session, LastPane, "close", 1)
            session.write(1, coded("more"))
            self.assertEqual(session.taken(1), coded("\x1b[0n") + [97])
            self.assertEqual(session.divide(1, BESIDE), 2)

    def test_the_zoom_stays(self):
        session = Session(9, 4)
        session.divide(1, BESIDE)
        session.close(1)
        session.zoom()
        self.check(session, LastPane, "close", 2)
        # The window is still zoomed: turning the zoom and splitting show it.
        session.zoom()
        session.divide(2, BESIDE)
        self.assertEqual(len(session.places()), 2)

    def test_the_last_one_of_a_window_is_not_that_of_the_session(self):
        session = Session(9, 4)
        session.window()
        session.close(1)
        self.check(session, LastPane, "close", 2)
        self.check(session, NoPane, "close", 1)


class WindowTest(ErrorCase):
    def test_indexes(self):
        session = busy()
        for index in (-1, -2, 2, 3, 999999999, -999999999):
            self.check(session, NoWindow, "show", index)
        session.show(1)
        for index in (-1, 2):
            self.check(session, NoWindow, "show", index)
        session.close(5)
        self.check(session, NoWindow, "show", 1)
        self.check_numbers(session, 6, 1)


class ClientTest(ErrorCase):
    CALLS = [("detach",), ("refit", 30, 30), ("seen",), ("pull", 5)]

    def test_clients_that_never_were_or_were_detached(self):
        session = busy()
        for client in range(1, 4):
            self.assertEqual(session.attach(20 + client, 9), client)
        session.detach(2)
        self.assertEqual(session.pull(1, 2), [24, 27])
        pulled(session, 3)
        for name, *values in self.CALLS:
            for client in NONE + (2, 4):
                self.check(session, NoClient, name, client, *values)
        self.assertEqual(session.pull(1, 1), [99])
        self.assertEqual(session.pull(3, 1), [])
        self.assertEqual(session.attach(20, 9), 4)
        self.check_numbers(session, 6, 5)

    def test_panes_and_windows_are_no_clients(self):
        session = busy()
        for name, *values in self.CALLS:
            self.check(session, NoClient, name, 1, *values)

    def test_the_size_stays(self):
        session = Session(9, 4)
        client = session.attach(20, 10)
        session.detach(client)
        self.check(session, NoClient, "refit", client, 5, 5)
        self.check(session, NoClient, "detach", client)
        self.assertEqual(session.size(), (20, 10))


class BeyondTest(unittest.TestCase):
    def test_sizes_beyond_the_limits(self):
        for width, height in ((1, 2), (2, 1), (1, 1), (9, 1), (410, 6), (9, 210)):
            for start in ((9, 4), (width, height)):
                session = Session(*start)
                client = session.attach(width, height)
                self.assertEqual(session.size(), (width, height))
                for _ in range(2):
                    session.zoom()
                    session.write(1, coded("ab\u4e2dc\r\n\r\n"))
                    self.assertEqual(len(session.picture().rows), height)
                    self.assertEqual(len(session.seen(client).rows), height)
                self.assertNotEqual(pulled(session, client), [])


class ArgumentTest(unittest.TestCase):
    def test_byte_lists_stay(self):
        session = Session(9, 4)
        data = coded("abc\x1b[5n")
        before = list(data)
        session.write(1, data)
        session.press(data)
        self.assertEqual(data, before)
        data.clear()
        self.assertEqual(session.taken(1), coded("\x1b[0n") + before)

    def test_keys_that_are_changed_afterwards(self):
        session = Session(9, 4)
        keys = [1, 2]
        session.press(keys)
        keys.append(3)
        self.assertEqual(session.taken(1), [1, 2])

    def test_drawn_failures_change_nothing(self):
        calls = [("divide", 1, BESIDE), ("divide", 2, BELOW), ("close", 3), ("focus", 5), ("border", 9, BESIDE, 2),
                 ("show", 2), ("show", -1), ("detach", 1), ("pull", 2, 9), ("write", 0, [97])]
        for seed in range(30):
            source = random.Random(seed)
            calm = opened(4, 3, "text")
            tried = opened(4, 3, "text")
            for _ in range(10):
                name, *values = source.choice(calls)
                try:
                    getattr(tried, name)(*values)
                    self.fail(name)
                except (NoPane, NoRoom, LastPane, NoWindow, NoClient):
                    pass
            for session in (calm, tried):
                session.attach(11, 6)
                session.divide(1, BELOW)
                session.divide(2, BESIDE)
            self.assertEqual(told(calm, [1, 2, 3]), told(tried, [1, 2, 3]))


if __name__ == "__main__":
    unittest.main()
