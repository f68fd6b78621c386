"""Points 47, 48 and 50: windows and panes: splitting, closing, focusing, zooming, moving borders, showing."""

import unittest

from manypanes.session import Session
from tests.sessions import BELOW, BESIDE, numbers, opened, shown, status
from tests.terminals import coded


def quarters():
    """Returns a session with four panes: 1 and 4 at the left, 2 and 3 at the right."""
    session = Session(21, 10)
    session.divide(1, BESIDE)
    session.divide(2, BELOW)
    session.divide(1, BELOW)
    return session


class NewTest(unittest.TestCase):
    def test_one_window_with_one_pane(self):
        for width, height in ((2, 2), (9, 4), (80, 24), (400, 200)):
            session = Session(width, height)
            self.assertEqual(session.size(), (width, height))
            self.assertEqual(session.places(), [(1, 0, 0, width, height - 1)])
            screen = session.screen(1)
            self.assertEqual((screen.width, screen.height), (width, height - 1))

    def test_the_pane_is_focused(self):
        session = Session(9, 4)
        session.press([97])
        self.assertEqual(session.taken(1), [97])
        self.assertEqual(status(session), "[1]      ")

    def test_the_limit_without_one_given(self):
        session = opened(4, 2, "first" + "\r\n" * 99)
        session.back(1, 999999999)
        self.assertEqual(shown(session), ["firs"])
        session.write(1, coded("\r\n"))
        self.assertEqual(shown(session), ["t   "])

    def test_limits(self):
        for limit in (0, 1, 3):
            session = opened(4, 3, "a\r\nb\r\nc\r\nd\r\ne\r\nf", limit=limit)
            session.back(1, 1000)
            self.assertEqual(shown(session)[0][0], "edcbaa"[limit])


class DivideTest(unittest.TestCase):
    def test_numbers(self):
        session = Session(80, 24)
        found = [session.divide(1, BESIDE), session.divide(1, BELOW), session.window(), session.divide(4, BELOW)]
        self.assertEqual(found, [2, 3, 4, 5])
        session.close(5)
        session.close(4)
        self.assertEqual(session.divide(1, BESIDE), 6)

    def test_places(self):
        session = Session(9, 4)
        session.divide(1, BESIDE)
        self.assertEqual(session.places(), [(1, 0, 0, 4, 3), (2, 0, 5, 4, 3)])
        session.divide(2, BELOW)
        self.assertEqual(session.places(), [(1, 0, 0, 4, 3), (2, 0, 5, 4, 1), (3, 2, 5, 4, 1)])

    def test_in_the_direction_around_it_and_in_the_other(self):
        session = Session(23, 9)
        session.divide(1, BESIDE)
        session.divide(1, BESIDE)
        self.assertEqual(session.places(), [(1, 0, 0, 5, 8), (3, 0, 6, 5, 8), (2, 0, 12, 11, 8)])
        session.divide(3, BELOW)
        session.divide(3, BELOW)
        self.assertEqual(session.places(), [(1, 0, 0, 5, 8), (3, 0, 6, 5, 2), (5, 3, 6, 5, 1), (4, 5, 6, 5, 3),
                                            (2, 0, 12, 11, 8)])

    def test_the_new_pane_is_focused(self):
        session = Session(9, 4)
        session.divide(1, BESIDE)
        session.press([97])
        self.assertEqual((session.taken(1), session.taken(2)), ([], [97]))
        self.assertEqual(session.picture().cursor, (0, 5))
        session.divide(1, BELOW)
        session.press([98])
        self.assertEqual((session.taken(1), session.taken(2), session.taken(3)), ([], [], [98]))

    def test_the_new_pane_is_new(self):
        session = opened(9, 4, "\x1b[31mabcdefg")
        session.divide(1, BESIDE)
        self.assertEqual(shown(session), ["abcd|    ", "efg |    ", "    |    "])
        self.assertEqual((session.screen(2).width, session.screen(2).height), (4, 3))

    def test_the_least_sizes(self):
        session = Session(5, 4)
        self.assertEqual(session.divide(1, BESIDE), 2)
        self.assertEqual(session.places(), [(1, 0, 0, 2, 3), (2, 0, 3, 2, 3)])
        self.assertEqual(session.divide(2, BELOW), 3)
        self.assertEqual(session.places(), [(1, 0, 0, 2, 3), (2, 0, 3, 2, 1), (3, 2, 3, 2, 1)])


class CloseTest(unittest.TestCase):
    def three(self):
        session = Session(23, 4)
        session.divide(1, BESIDE)
        session.divide(2, BESIDE)
        return session

    def test_first_middle_and_last(self):
        self.assertEqual(self.three().places(), [(1, 0, 0, 11, 3), (2, 0, 12, 5, 3), (3, 0, 18, 5, 3)])
        for pane, expected in ((1, [(2, 0, 0, 17, 3), (3, 0, 18, 5, 3)]), (2, [(1, 0, 0, 17, 3), (3, 0, 18, 5, 3)]),
                               (3, [(1, 0, 0, 11, 3), (2, 0, 12, 11, 3)])):
            session = self.three()
            self.assertIsNone(session.close(pane))
            self.assertEqual(session.places(), expected)

    def test_a_focused_pane(self):
        for pane, focused in ((1, 2), (2, 1), (3, 1)):
            session = self.three()
            session.focus(pane)
            session.close(pane)
            session.press([97])
            self.assertEqual(session.taken(focused), [97])

    def test_the_pane_of_the_first_box_is_that_of_the_layout_behind(self):
        session = Session(23, 10)
        session.divide(1, BELOW)
        session.divide(1, BESIDE)
        session.focus(1)
        session.close(1)
        self.assertEqual(numbers(session), [3, 2])
        session.press([97])
        self.assertEqual((session.taken(3), session.taken(2)), ([97], []))

    def test_a_pane_that_is_not_focused(self):
        for pane, focused in ((1, 2), (2, 3), (3, 1)):
            session = self.three()
            session.focus(focused)
            session.close(pane)
            session.press([97])
            self.assertEqual(session.taken(focused), [97])

    def test_one_part_joins_the_parts_around(self):
        session = Session(23, 10)
        session.divide(1, BESIDE)
        session.divide(2, BELOW)
        session.divide(3, BESIDE)
        session.close(2)
        self.assertEqual(session.places(), [(1, 0, 0, 11, 9), (3, 0, 12, 5, 9), (4, 0, 18, 5, 9)])

    def test_a_window_becomes_empty(self):
        session = Session(9, 4)
        session.window()
        session.window()
        session.show(1)
        session.close(2)
        self.assertEqual((numbers(session), status(session)), ([1], "[1] 2    "))
        session.close(1)
        self.assertEqual((numbers(session), status(session)), ([3], "[1]      "))

    def test_the_last_window_becomes_empty(self):
        session = Session(12, 4)
        session.window()
        session.window()
        session.close(3)
        self.assertEqual((numbers(session), status(session)), ([2], "1 [2]       "))

    def test_the_first_window_becomes_empty(self):
        session = Session(12, 4)
        session.window()
        session.window()
        session.show(0)
        session.close(1)
        self.assertEqual((numbers(session), status(session)), ([2], "[1] 2       "))

    def test_a_pane_of_another_window(self):
        session = quarters()
        session.window()
        session.close(4)
        self.assertEqual((numbers(session), status(session)[:7]), ([5], "1 [2]  "))
        session.press([97])
        self.assertEqual(session.taken(5), [97])
        session.show(0)
        self.assertEqual(numbers(session), [1, 2, 3])
        # Pane 4 was focused there.
        session.press([98])
        self.assertEqual(session.taken(1), [98])

    def test_another_window_is_unzoomed(self):
        session = quarters()
        session.zoom()
        session.window()
        session.close(2)
        session.show(0)
        self.assertEqual(numbers(session), [1, 4, 3])
        session.press([98])
        self.assertEqual(session.taken(4), [98])

    def test_another_window_becomes_empty(self):
        for closed, current, expected in ((1, 1, "[1] 2 "), (1, 2, "1 [2] "), (2, 0, "[1] 2 "), (2, 2, "1 [2] "),
                                          (3, 0, "[1] 2 "), (3, 1, "1 [2] ")):
            session = Session(6, 4)
            session.window()
            session.window()
            session.show(current)
            session.close(closed)
            self.assertEqual(status(session), expected)
            self.assertEqual(numbers(session), [current + 1])


class FocusTest(unittest.TestCase):
    def test_keys_and_cursor_go_to_the_focused_pane(self):
        session = quarters()
        for pane, place in ((1, (0, 0)), (2, (0, 11)), (3, (5, 11)), (4, (5, 0))):
            self.assertIsNone(session.focus(pane))
            session.press([pane])
            self.assertEqual(session.taken(pane), [pane])
            self.assertEqual(session.picture().cursor, place)

    def test_places_stay(self):
        session = quarters()
        before = session.places()
        session.focus(1)
        session.focus(1)
        self.assertEqual(session.places(), before)


class ZoomTest(unittest.TestCase):
    def test_the_focused_pane_fills_the_area(self):
        session = quarters()
        before = session.places()
        self.assertIsNone(session.zoom())
        self.assertEqual(session.places(), [(4, 0, 0, 21, 9)])
        self.assertEqual((session.screen(4).width, session.screen(4).height), (21, 9))
        self.assertEqual((session.screen(3).width, session.screen(3).height), (10, 4))
        session.zoom()
        self.assertEqual(session.places(), before)
        self.assertEqual((session.screen(4).width, session.screen(4).height), (10, 4))

    def test_a_single_pane(self):
        session = Session(9, 4)
        session.zoom()
        self.assertEqual(session.places(), [(1, 0, 0, 9, 3)])
        session.divide(1, BESIDE)
        self.assertEqual(numbers(session), [1, 2])

    def test_splitting_unzooms(self):
        session = quarters()
        session.zoom()
        # The room is that of the box, not that of the area.
        self.assertEqual(session.divide(4, BESIDE), 5)
        self.assertEqual(session.places()[1:3], [(4, 5, 0, 5, 4), (5, 5, 6, 4, 4)])
        self.assertEqual(numbers(session), [1, 4, 5, 2, 3])
        self.assertEqual((session.screen(4).width, session.screen(4).height), (5, 4))

    def test_closing_unzooms(self):
        for pane, expected in ((4, [1, 2, 3]), (2, [1, 4, 3])):
            session = quarters()
            session.zoom()
            session.close(pane)
            self.assertEqual(numbers(session), expected)

    def test_focusing_stays_zoomed(self):
        session = quarters()
        session.zoom()
        session.focus(2)
        self.assertEqual(session.places(), [(2, 0, 0, 21, 9)])
        self.assertEqual((session.screen(2).width, session.screen(2).height), (21, 9))
        self.assertEqual((session.screen(4).width, session.screen(4).height), (10, 4))
        session.focus(2)
        self.assertEqual(session.places(), [(2, 0, 0, 21, 9)])

    def test_moving_a_border_unzooms(self):
        for pane, direction, amount in ((4, BESIDE, 2), (4, BELOW, 2), (1, BESIDE, 0), (3, BESIDE, 1), (1, BELOW, 999)):
            session = quarters()
            session.zoom()
            session.border(pane, direction, amount)
            self.assertEqual(numbers(session), [1, 4, 2, 3])
        session = Session(9, 4)
        session.zoom()
        session.border(1, BESIDE, 3)
        session.divide(1, BESIDE)
        session.close(2)
        self.assertEqual(session.places(), [(1, 0, 0, 9, 3)])

    def test_a_change_of_the_window(self):
        session = quarters()
        session.zoom()
        session.window()
        self.assertEqual(session.places(), [(5, 0, 0, 21, 9)])
        session.divide(5, BESIDE)
        self.assertEqual(numbers(session), [5, 6])
        session.show(0)
        self.assertEqual(session.places(), [(4, 0, 0, 21, 9)])
        self.assertEqual((session.screen(4).width, session.screen(4).height), (21, 9))
        session.show(1)
        self.assertEqual(numbers(session), [5, 6])
        session.zoom()
        session.show(0)
        session.zoom()
        self.assertEqual(numbers(session), [1, 4, 2, 3])
        session.show(1)
        self.assertEqual(session.places(), [(6, 0, 0, 21, 9)])


class BorderTest(unittest.TestCase):
    def test_amounts(self):
        for amount, width in ((0, 10), (3, 13), (-3, 7), (8, 18), (9, 18), (999999999, 18), (-8, 2), (-9, 2),
                              (-999999999, 2)):
            session = Session(21, 4)
            session.divide(1, BESIDE)
            self.assertIsNone(session.border(1, BESIDE, amount))
            self.assertEqual(session.places(), [(1, 0, 0, width, 3), (2, 0, width + 1, 20 - width, 3)])
            self.assertEqual(session.screen(1).width, width)
            self.assertEqual(session.screen(2).width, 20 - width)

    def test_no_such_border(self):
        session = quarters()
        before = session.places()
        session.border(2, BESIDE, 3)
        session.border(3, BELOW, 3)
        session.border(4, BELOW, -3)
        self.assertEqual(session.places(), before)

    def test_innermost(self):
        session = quarters()
        session.border(4, BESIDE, 2)
        session.border(2, BELOW, -1)
        self.assertEqual(session.places(), [(1, 0, 0, 12, 4), (4, 5, 0, 12, 4), (2, 0, 13, 8, 3), (3, 4, 13, 8, 5)])

    def test_the_focus_stays(self):
        session = quarters()
        session.border(1, BELOW, 1)
        session.press([97])
        self.assertEqual(session.taken(4), [97])


class WindowTest(unittest.TestCase):
    def test_opening(self):
        session = Session(12, 4)
        self.assertEqual([session.window(), session.window()], [2, 3])
        self.assertEqual((session.places(), status(session)), ([(3, 0, 0, 12, 3)], "1 2 [3]     "))
        session.press([97])
        self.assertEqual(session.taken(3), [97])

    def test_behind_the_last_one(self):
        session = Session(12, 4)
        session.window()
        session.show(0)
        self.assertEqual(session.window(), 3)
        self.assertEqual((numbers(session), status(session)), ([3], "1 2 [3]     "))

    def test_showing(self):
        session = Session(12, 4)
        session.window()
        for index in (0, 1, 1, 0):
            self.assertIsNone(session.show(index))
            self.assertEqual(numbers(session), [index + 1])

    def test_each_window_has_a_focused_pane(self):
        session = quarters()
        session.focus(2)
        session.window()
        session.divide(5, BESIDE)
        session.show(0)
        session.press([97])
        session.show(1)
        session.press([98])
        self.assertEqual((session.taken(2), session.taken(6)), ([97], [98]))

    def test_panes_of_other_windows_are_written_to(self):
        session = Session(6, 3)
        session.window()
        session.write(1, coded("hidden"))
        self.assertEqual(shown(session), ["      ", "      "])
        session.show(0)
        self.assertEqual(shown(session), ["hidden", "      "])


class ReturnTest(unittest.TestCase):
    def test_nothing_is_returned(self):
        session = quarters()
        client = session.attach(21, 10)
        for result in (session.write(1, [97]), session.press([97]), session.close(4), session.focus(1),
                       session.border(1, BESIDE, 1), session.zoom(), session.show(0), session.back(1, 1),
                       session.refit(client, 9, 9), session.detach(client)):
            self.assertIsNone(result)

    def test_what_was_returned_may_be_changed(self):
        session = quarters()
        for get in (session.places, session.picture, lambda: session.screen(1)):
            for value in (get(), get()):
                rows = value if isinstance(value, list) else value.rows
                self.assertTrue(rows)
                rows.clear()
            self.assertTrue(get() if isinstance(get(), list) else get().rows)
        picture = session.picture()
        picture.rows[0][0] = (97, (1, 1, 1))
        picture.cursor = (7, 7)
        picture.visible = False
        screen = session.screen(1)
        screen.rows[0][0] = (97, (1, 1, 1))
        self.assertEqual(session.picture().rows[0][0], (32, (-1, -1, 0)))
        self.assertEqual(session.screen(1).rows[0][0], (32, (-1, -1, 0)))
        self.assertEqual((session.picture().cursor, session.picture().visible), ((5, 0), True))


if __name__ == "__main__":
    unittest.main()
