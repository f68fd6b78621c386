"""Points 1, 2, 4 to 6, 17 to 19, 36 and 38: what holds in every state."""

import unittest

from manypanes.parser import Parser
from manypanes.terminal import Terminal
from tests.terminals import CSI, OTHER_ON, SET, check_sound, coded, drawn_bytes, drawn_text, feed, new

SIZES = [(2, 1), (2, 4), (3, 2), (5, 1), (7, 4), (12, 5), (80, 24), (130, 3), (4, 120)]
LIMITS = [100, 0, 3, 1000, 1]


def told(terminal):
    """Returns all that a terminal tells."""
    return (terminal.state(), terminal.text(), terminal.resting(), terminal.answers())


def fed(size, pieces):
    """Returns all that a terminal tells that has read byte lists."""
    terminal = Terminal(*size)
    for piece in pieces:
        terminal.feed(piece)
    return told(terminal)


def cut_lists():
    """Returns byte lists, each with a size of a terminal, to be cut."""
    wide = "ab\u4e2d\u4e2d\u00e9x\U0001f600"
    texts = [
        wide * 3, "abcdefg\r\nhij\tk\b\x1bM\x1bD\x1bE" + CSI + "2;3H" + wide + CSI + "1@" + CSI + "2P",
        CSI + "1;2r" + SET + "6h" + CSI + "6n" + CSI + "c" + wide + OTHER_ON + "xyz\x1b7\x1b8" + SET + "1049l",
        "\x1b]0;title\x07" + CSI + "38;5;200m" + wide + "\x1b]2;other\x1b\\" + CSI + "3J" + "\x1b(B" + CSI + "5n",
        CSI + "12;34;56" + "\x18" + wide + "\x1bc" + wide + CSI + "?25" + "\n" + "l\xff",
    ]
    lists = [coded(text) for text in texts] + [coded("abc\u4e2d")[:-1] + [27], [195, 27, 91, 240, 159, 65]]
    lists += [coded("".join(drawn_text(seed, 5, 3, 12))) for seed in range(6)]
    lists += [drawn_bytes(seed, 60) for seed in range(6)]
    return [((5, 3), data) for data in lists] + [((2, 1), data) for data in lists[:4]]


class SoundTest(unittest.TestCase):
    def test_what_programs_write(self):
        for seed in range(150):
            width, height = SIZES[seed % len(SIZES)]
            limit = LIMITS[seed % len(LIMITS)]
            terminal = new(width, height, limit=limit)
            for text in drawn_text(seed, width, height, 40):
                feed(terminal, text)
                if width * height < 200:
                    check_sound(terminal, limit, self)
            check_sound(terminal, limit, self)

    def test_bytes_of_any_kind(self):
        for seed in range(60):
            width, height = SIZES[seed % len(SIZES)]
            limit = LIMITS[seed % len(LIMITS)]
            terminal = new(width, height, limit=limit)
            for part in range(4):
                terminal.feed(drawn_bytes(1000 * part + seed, 300))
                check_sound(terminal, limit, self)

    def test_every_byte_in_every_state_of_the_parser(self):
        for start in ([], [27], [27, 91], [27, 91, 49], [27, 91, 63], [27, 32], [27, 93], [27, 80, 27], [195], [240, 159]):
            for byte in range(256):
                terminal = new(4, 2, "abcde")
                terminal.feed(start + [byte, 65, 65])
                check_sound(terminal, 100, self)

    def test_with_resizing(self):
        for seed in range(80):
            limit = LIMITS[seed % len(LIMITS)]
            terminal = new(5, 3, limit=limit)
            for step, text in enumerate(drawn_text(seed, 6, 4, 40)):
                feed(terminal, text)
                if step % 3 == 0:
                    terminal.resize(2 + (seed * 7 + step * 5) % 11, 1 + (seed + step) % 6)
                    check_sound(terminal, limit, self)

    def test_resting_is_that_of_the_parser(self):
        for seed in range(100):
            terminal, parser = new(5, 3), Parser()
            for byte in drawn_bytes(seed, 60):
                terminal.feed([byte])
                parser.take([byte])
                self.assertIs(terminal.resting(), parser.resting())


class PieceTest(unittest.TestCase):
    def test_into_two(self):
        for size, data in cut_lists():
            expected = fed(size, [data])
            for place in range(len(data) + 1):
                self.assertEqual(fed(size, [data[:place], data[place:]]), expected, (data, place))

    def test_into_single_bytes(self):
        for size, data in cut_lists():
            self.assertEqual(fed(size, [[byte] for byte in data]), fed(size, [data]))

    def test_with_empty_pieces(self):
        for size, data in cut_lists():
            pieces = [piece for byte in data for piece in ([], [byte], [])]
            self.assertEqual(fed(size, pieces), fed(size, [data]))

    def test_long_lists(self):
        for seed in range(6):
            data = coded("".join(drawn_text(seed, 9, 5, 300))) + drawn_bytes(seed, 500)
            expected = fed((9, 5), [data])
            for many in (1, 2, 7, 100):
                pieces = [data[place:place + many] for place in range(0, len(data), many)]
                self.assertEqual(fed((9, 5), pieces), expected)

    def test_cut_and_made_new(self):
        for size, data in cut_lists():
            for place in range(len(data) + 1):
                terminal = Terminal(*size)
                terminal.feed(data[:place])
                terminal.feed([24, 27, 99])
                self.assertEqual(terminal.state(), Terminal(*size).state())
                self.assertIs(terminal.resting(), True)


class OwnerTest(unittest.TestCase):
    def test_byte_lists_stay(self):
        for size, data in cut_lists():
            copy = list(data)
            fed(size, [data])
            self.assertEqual(data, copy)

    def test_two_terminals(self):
        for seed in range(20):
            first, second = new(6, 3), new(4, 5)
            both = (drawn_text(seed, 6, 3, 30), drawn_text(seed + 500, 4, 5, 30))
            for one, other in zip(*both):
                feed(first, one)
                feed(second, other)
                first.picture(), second.text()
            first.resize(7, 2)
            alone = new(6, 3, "".join(both[0]))
            alone.resize(7, 2)
            self.assertEqual(told(first), told(alone))
            self.assertEqual(told(second), told(new(4, 5, "".join(both[1]))))

    def test_what_was_returned_stays(self):
        for seed in range(30):
            pieces = drawn_text(seed, 5, 3, 30)
            terminal = new(5, 3, "".join(pieces[:15]))
            state, picture, text = terminal.state(), terminal.picture(), terminal.text()
            twin = new(5, 3, "".join(pieces[:15]))
            feed(terminal, "".join(pieces[15:]))
            terminal.resize(3, 6)
            feed(terminal, CSI + "2J" + OTHER_ON + "\x1b7x")
            self.assertEqual((state, text), (twin.state(), twin.text()))
            self.assertTrue(picture == twin.picture())

    def test_what_was_returned_belongs_to_the_caller(self):
        for seed in range(30):
            text = "".join(drawn_text(seed, 5, 3, 30)) + CSI + "6n"
            terminal, twin = new(5, 3, text), new(5, 3, text)
            picture, lines, answers = terminal.picture(), terminal.text(), terminal.answers()
            twin.answers()
            for row in picture.rows:
                row[0] = (120, (1, 2, 3))
                row.pop()
            picture.rows.pop()
            picture.visible = None
            for line in lines:
                line.append(0)
            lines.append([1])
            answers.append(65)
            more = "\u4e2da\r\nb"
            feed(terminal, more)
            feed(twin, more)
            self.assertEqual(told(terminal), told(twin))
            self.assertTrue(terminal.picture() == twin.picture())

    def test_asking_changes_nothing(self):
        terminal = new(5, 3, "abcdefg" + CSI + "31m" + CSI + "1")
        first = (terminal.state(), terminal.text(), terminal.resting())
        terminal.picture()
        terminal.answers()
        self.assertEqual((terminal.state(), terminal.text(), terminal.resting()), first)


if __name__ == "__main__":
    unittest.main()
