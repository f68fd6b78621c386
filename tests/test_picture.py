"""Point 36: pictures."""

import unittest

from manypanes.picture import Picture, difference
from tests.terminals import BLANK, CSI, OTHER_ON, PLAIN, SET, feed, lettered, new

A = (97, PLAIN)
RED = (97, (1, -1, 0))


def small(rows=None, cursor=(0, 1), visible=True, width=2, height=2):
    return Picture(width, height, rows or [[A, BLANK], [BLANK, RED]], cursor, visible)


class PictureTest(unittest.TestCase):
    def test_attributes(self):
        picture = small()
        self.assertEqual((picture.width, picture.height), (2, 2))
        self.assertEqual(picture.rows, [[A, BLANK], [BLANK, RED]])
        self.assertEqual(picture.cursor, (0, 1))
        self.assertIs(picture.visible, True)

    def test_sizes_are_not_checked(self):
        picture = Picture(7, 9, [[A]], (3, 3), False)
        self.assertEqual((picture.width, picture.height, picture.rows), (7, 9, [[A]]))

    def test_rows_are_copied(self):
        rows = [[A, BLANK], [BLANK, RED]]
        picture = Picture(2, 2, rows, (0, 0), True)
        rows[0][0] = RED
        rows.append([A, A])
        self.assertEqual(picture.rows, [[A, BLANK], [BLANK, RED]])
        picture.rows[1][0] = A
        self.assertEqual(rows[1], [BLANK, RED])

    def test_equal(self):
        self.assertTrue(small() == small())
        self.assertFalse(small() != small())

    def test_each_attribute_counts(self):
        others = [
            small(width=3), small(height=1), small(cursor=(1, 1)), small(cursor=(0, 0)), small(visible=False),
            small([[A, BLANK], [BLANK, A]]), small([[A, BLANK]]), small([[A, BLANK], [BLANK, RED, A]]),
        ]
        for other in others:
            self.assertFalse(small() == other)
            self.assertTrue(small() != other)

    def test_equal_to_no_other_value(self):
        class Twin:
            def __init__(self):
                self.__dict__.update(small().__dict__)

        for other in (None, 0, "", (), [], {}, small().rows, (2, 2, small().rows, (0, 1), True), Twin()):
            self.assertFalse(small() == other)
            self.assertTrue(small() != other)
            self.assertFalse(other == small())


class DifferenceTest(unittest.TestCase):
    def test_none(self):
        self.assertEqual(difference(small(), small()), 0)

    def test_cells(self):
        other = small([[RED, BLANK], [A, A]])
        self.assertEqual(difference(small(), other), 3)
        self.assertEqual(difference(other, small()), 3)

    def test_all(self):
        other = small([[BLANK, A], [A, A]])
        self.assertEqual(difference(small(), other), 4)

    def test_the_cursor_is_no_cell(self):
        self.assertEqual(difference(small(), small(cursor=(1, 1), visible=False)), 0)

    def test_halves_count_each(self):
        first, second = new(4, 1, "\u4e2db").picture(), new(4, 1, "aab").picture()
        self.assertEqual(difference(first, second), 2)

    def test_nothing_is_modified(self):
        first, second = small(), small([[RED, BLANK], [A, A]])
        difference(first, second)
        self.assertEqual((first, second), (small(), small([[RED, BLANK], [A, A]])))


class TerminalPictureTest(unittest.TestCase):
    def test_new(self):
        picture = new(3, 2).picture()
        self.assertEqual(picture, Picture(3, 2, [[BLANK] * 3, [BLANK] * 3], (0, 0), True))

    def test_kinds(self):
        picture = new(3, 2, "a").picture()
        self.assertIs(type(picture), Picture)
        self.assertIs(type(picture.rows), list)
        self.assertEqual({type(row) for row in picture.rows}, {list})
        self.assertEqual({type(cell) for row in picture.rows for cell in row}, {tuple})
        self.assertIs(type(picture.cursor), tuple)

    def test_cells_with_their_styles(self):
        picture = new(3, 1, "a" + CSI + "31m\u4e2d").picture()
        self.assertEqual(picture.rows, [[A, (20013, (1, -1, 0)), (0, (1, -1, 0))]])

    def test_blanks_for_gaps(self):
        terminal = new(3, 2, "aa\u4e2d")
        self.assertEqual(terminal.state()[3][0][0][2], (-1, PLAIN))
        self.assertEqual(terminal.picture().rows[0], [A, A, BLANK])

    def test_the_cursor(self):
        self.assertEqual(new(5, 3, "ab\ncd").picture().cursor, (1, 4))
        self.assertEqual(new(5, 3, "abcde").picture().cursor, (0, 4))

    def test_a_hidden_cursor(self):
        terminal = new(5, 3, "ab\ncd" + SET + "25l")
        self.assertEqual((terminal.picture().cursor, terminal.picture().visible), ((0, 0), False))
        feed(terminal, SET + "25h")
        self.assertEqual((terminal.picture().cursor, terminal.picture().visible), ((1, 4), True))

    def test_the_shown_screen(self):
        terminal = new(3, 1, "ab" + OTHER_ON + "c")
        self.assertEqual(lettered(terminal.picture().rows[0]), "  c")
        feed(terminal, SET + "1049l")
        self.assertEqual(lettered(terminal.picture().rows[0]), "ab ")

    def test_a_picture_stays(self):
        terminal = new(3, 2, "ab")
        picture = terminal.picture()
        feed(terminal, "\r\nxyzxyz" + SET + "25l")
        self.assertEqual(picture, new(3, 2, "ab").picture())
        picture.rows[0][0] = A
        picture.rows.clear()
        self.assertEqual(lettered(terminal.picture().rows[0]), "xyz")


if __name__ == "__main__":
    unittest.main()
