"""Points 1, 2 and 17: pieces of byte lists, and what belongs to whom."""

import random
import unittest

from manypanes.parser import Parser
from tests.reading import STRING_END, TITLE

LISTS = [
    [65, 27, 91, 63, 50, 53, 108, 195, 65],
    [27, 91, 59, 53, 109, 27, 93, 50, 59, 104, 105, 7, 27, 68],
    [195, 169, 228, 184, 173, 240, 159, 152, 128, 240, 159, 152, 65, 228, 10, 195],
    [27, 32, 33, 70, 27, 40, 127, 66, 27, 10, 68, 27, 27, 69],
    [27, 91, 49, 10, 50, 59, 59, 127, 51, 72, 27, 91, 32, 113, 27, 91, 49, 63, 104, 27, 91],
    [27, 91] + list(b"1;2;3;4;5;6;7;8;9;10;11;12;13;14;15;16;17m") + [27, 91, 57, 57, 57, 57, 57, 109],
    [27, 93, 48, 59, 97, 10, 98, 27, 92, 99, 27, 80, 113, 27, 92, 27, 93, 48, 59, 27, 91, 109],
    TITLE + [48, 59] + [9] * 252 + [65, 66, 67, 7, 68],
    TITLE + [50, 59] + [66] * 70 + [27, 92, 68],
    STRING_END + [24, 65, 27, 91, 49, 26, 65, 27, 93, 50, 59, 24, 7],
    STRING_END + [7, 92, 92],
    STRING_END + [195, 169, 27, 200, 128, 27, 91, 240, 144, 128, 128, 27, 32, 255],
    [128, 191, 192, 193, 194, 223, 224, 239, 240, 247, 248, 255, 27],
    [24, 26, 27, 127, 0, 31, 32, 126, 128],
    [27, 80, 27],
    [],
    [195],
]


def drawn_lists():
    """Returns byte lists that lead through all states again and again."""
    source = random.Random(20)
    likely = [27, 27, 27, 91, 93, 80, 48, 50, 59, 63, 109, 32, 7, 92, 24, 127, 10,
              65, 195, 169, 228, 184, 173, 240, 159, 128, 255]
    lists = []
    for length in (30, 60, 120):
        for _ in range(20):
            lists.append([source.choice(likely) for _ in range(length)])
            lists.append([source.randrange(256) for _ in range(length)])
    return lists


def whole(data):
    """Returns the actions of a byte list, and whether the parser rests then."""
    parser = Parser()
    return parser.take(data), parser.resting()


def in_pieces(pieces):
    """Returns the same as `whole`, with a take for each piece."""
    parser = Parser()
    actions = []
    for piece in pieces:
        actions.extend(parser.take(piece))
    return actions, parser.resting()


class CutTest(unittest.TestCase):
    def test_into_two(self):
        for data in LISTS + drawn_lists():
            expected = whole(data)
            for place in range(len(data) + 1):
                self.assertEqual(in_pieces([data[:place], data[place:]]), expected, (data, place))

    def test_into_single_bytes(self):
        for data in LISTS + drawn_lists():
            self.assertEqual(in_pieces([[byte] for byte in data]), whole(data), data)

    def test_with_empty_pieces(self):
        for data in LISTS:
            pieces = [piece for byte in data for piece in ([], [byte], [])]
            self.assertEqual(in_pieces(pieces), whole(data))

    def test_into_many(self):
        source = random.Random(21)
        for data in LISTS + drawn_lists():
            for _ in range(5):
                many = source.randrange(8)
                places = sorted(source.randrange(len(data) + 1) for _ in range(many))
                bounds = [0] + places + [len(data)]
                pieces = [data[first:last] for first, last in zip(bounds, bounds[1:])]
                self.assertEqual(in_pieces(pieces), whole(data))

    def test_resting_at_each_place(self):
        for data in LISTS + drawn_lists():
            parser = Parser()
            for place, byte in enumerate(data):
                parser.take([byte])
                self.assertIs(parser.resting(), whole(data[:place + 1])[1])

    def test_a_long_list(self):
        unit = [byte for data in LISTS for byte in data] + [24]
        actions, resting = whole(unit)
        self.assertIs(resting, True)
        self.assertEqual(whole(unit * 300), (actions * 300, True))
        self.assertEqual(in_pieces([unit] * 300), (actions * 300, True))


class OwnerTest(unittest.TestCase):
    def test_the_argument_stays(self):
        for data in LISTS + drawn_lists():
            given = list(data)
            Parser().take(given)
            self.assertEqual(given, data)

    def test_the_argument_may_be_changed_afterwards(self):
        parser = Parser()
        given = TITLE + [48, 59, 65]
        parser.take(given)
        given.clear()
        self.assertEqual(parser.take([66, 7]), [("title", (65, 66))])

    def test_two_parsers(self):
        for data in LISTS:
            for other in LISTS:
                first, second = Parser(), Parser()
                found = ([], [])
                for place in range(max(len(data), len(other))):
                    found[0].extend(first.take(data[place:place + 1]))
                    found[1].extend(second.take(other[place:place + 1]))
                self.assertEqual((found[0], first.resting()), whole(data))
                self.assertEqual((found[1], second.resting()), whole(other))

    def test_a_new_parser_is_in_ground(self):
        Parser().take([27, 91, 49])
        self.assertIs(Parser().resting(), True)
        self.assertEqual(Parser().take([109]), [("print", 109)])

    def test_a_returned_list_may_be_changed(self):
        for change in (list.clear, list.pop, lambda actions: actions.append(7)):
            for data in LISTS:
                parser = Parser()
                change(parser.take([65] + data))
                other = Parser()
                other.take([65] + data)
                self.assertIs(parser.resting(), other.resting())
                for rest in ([92, 65], [7, 66], [109]):
                    self.assertEqual(parser.take(rest), other.take(rest))

    def test_a_returned_list_stays_as_it_was(self):
        parser = Parser()
        actions = parser.take([65, 66])
        parser.take([67])
        self.assertEqual(actions, [("print", 65), ("print", 66)])

    def test_resting_changes_nothing(self):
        for data in LISTS:
            parser = Parser()
            actions = []
            for byte in data:
                parser.resting()
                actions.extend(parser.take([byte]))
                parser.resting()
            self.assertEqual((actions, parser.resting()), whole(data))


if __name__ == "__main__":
    unittest.main()
