"""Points 7, 8 and 11, and points 9 and 10 in ground."""

import unittest

from manypanes.cells import is_point
from manypanes.parser import Parser
from tests.reading import ESCAPE, after, controls, follow, outlook

WRONG = ("print", 65533)

# Beginnings of characters that lack one to three further bytes.
UNFINISHED = [
    [192], [195], [223],
    [224], [228], [239], [224, 160], [228, 184], [239, 191],
    [240], [244], [247], [240, 144], [240, 159], [247, 191],
    [240, 144, 128], [240, 159, 152], [247, 191, 191],
]


def lengthened(number, many):
    """Returns the bytes of a number in a form with `many` further bytes."""
    further = [128 + (number >> 6 * place & 63) for place in range(many - 1, -1, -1)]
    return [{1: 192, 2: 224, 3: 240}[many] + (number >> 6 * many)] + further


class GroundTest(unittest.TestCase):
    def test_new(self):
        parser = Parser()
        self.assertIs(parser.resting(), True)
        self.assertEqual(parser.take([]), [])
        self.assertIs(parser.resting(), True)

    def test_printed(self):
        for byte in range(32, 127):
            parser = Parser()
            self.assertEqual(parser.take([byte]), [("print", byte)])
            self.assertIs(parser.resting(), True)

    def test_controls(self):
        for byte in controls():
            parser = Parser()
            self.assertEqual(parser.take([byte]), [("control", byte)])
            self.assertIs(parser.resting(), True)

    def test_without_action(self):
        for byte in (24, 26, 127):
            parser = Parser()
            self.assertEqual(parser.take([byte]), [])
            self.assertIs(parser.resting(), True)
            self.assertEqual(outlook([byte]), outlook([]))

    def test_escape(self):
        self.assertEqual(Parser().take([27]), [])
        self.assertIs(after([27]).resting(), False)
        self.assertEqual(outlook([65, 27]), outlook(ESCAPE))

    def test_lone_bytes_from_128_on(self):
        for byte in [*range(128, 192), *range(248, 256)]:
            parser = Parser()
            self.assertEqual(parser.take([byte]), [WRONG])
            self.assertIs(parser.resting(), True)
            self.assertEqual(parser.take([byte, 65]), [WRONG, ("print", 65)])

    def test_first_bytes_of_characters(self):
        for byte in range(192, 248):
            parser = Parser()
            self.assertEqual(parser.take([byte]), [])
            self.assertIs(parser.resting(), False)
            lacking = 1 if byte < 224 else 2 if byte < 240 else 3
            for _ in range(lacking - 1):
                self.assertEqual(parser.take([160]), [])
                self.assertIs(parser.resting(), False)
            self.assertEqual(len(parser.take([160])), 1)
            self.assertIs(parser.resting(), True)
            self.assertEqual(parser.take([160]), [WRONG])

    def test_kinds_of_values(self):
        actions = Parser().take([65, 10, 27, 68, 27, 91, 109, 27, 93, 48, 59, 65, 7])
        self.assertIs(type(actions), list)
        for action in actions:
            self.assertIs(type(action), tuple)
        self.assertEqual([action[0] for action in actions],
                         ["print", "control", "escape", "sequence", "title"])
        self.assertIs(type(actions[3][2]), tuple)
        self.assertIs(type(actions[4][1]), tuple)
        self.assertIs(type(Parser().resting()), bool)


class CharacterTest(unittest.TestCase):
    def check(self, number, many):
        least = {1: 128, 2: 2048, 3: 65536}[many]
        good = is_point(number) and number >= least
        expected = [("print", number)] if good else [WRONG]
        data = lengthened(number, many)
        self.assertEqual(Parser().take(data), expected, data)
        self.assertIs(after(data).resting(), True)

    def test_one_further_byte(self):
        for number in range(2048):
            self.check(number, 1)

    def test_two_further_bytes(self):
        for number in range(65536):
            self.check(number, 2)

    def test_three_further_bytes(self):
        sample = [*range(0, 300), *range(1900, 2200), *range(55200, 57500),
                  *range(65400, 65700), *range(1113900, 1114300), 2097150, 2097151,
                  *range(0, 2097152, 211)]
        for number in sample:
            self.check(number, 3)

    def test_bounds_of_the_numbers_of_bytes(self):
        take = Parser().take
        self.assertEqual(take([193, 191]), [WRONG])
        self.assertEqual(take([194, 128]), [("print", 128)])
        self.assertEqual(take([223, 191]), [("print", 2047)])
        self.assertEqual(take([224, 159, 191]), [WRONG])
        self.assertEqual(take([224, 160, 128]), [("print", 2048)])
        self.assertEqual(take([239, 191, 191]), [("print", 65535)])
        self.assertEqual(take([240, 143, 191, 191]), [WRONG])
        self.assertEqual(take([240, 144, 128, 128]), [("print", 65536)])
        self.assertEqual(take([244, 143, 191, 191]), [("print", 1114111)])
        self.assertEqual(take([244, 144, 128, 128]), [WRONG])
        self.assertEqual(take([247, 191, 191, 191]), [WRONG])

    def test_too_long_forms(self):
        for data in ([192, 128], [193, 129], [224, 129, 129], [240, 128, 129, 129],
                     [224, 131, 169], [240, 132, 184, 173], [193, 191], [224, 129, 191]):
            self.assertEqual(Parser().take(data), [WRONG], data)

    def test_numbers_that_are_no_points(self):
        self.assertEqual(Parser().take([237, 159, 191]), [("print", 55295)])
        self.assertEqual(Parser().take([237, 160, 128]), [WRONG])
        self.assertEqual(Parser().take([237, 191, 191]), [WRONG])
        self.assertEqual(Parser().take([238, 128, 128]), [("print", 57344)])

    def test_characters_in_a_row(self):
        data = [195, 169, 228, 184, 173, 240, 159, 152, 128, 65, 195, 169]
        points = [233, 20013, 128512, 65, 233]
        self.assertEqual(Parser().take(data), [("print", point) for point in points])


class UnfinishedTest(unittest.TestCase):
    def test_not_resting(self):
        for start in UNFINISHED:
            parser = Parser()
            self.assertEqual(parser.take(start), [], start)
            self.assertIs(parser.resting(), False)
            self.assertEqual(parser.take([]), [])
            self.assertIs(parser.resting(), False)

    def test_each_byte_behind_it(self):
        others = [byte for byte in range(256) if not 128 <= byte <= 191]
        for start in UNFINISHED:
            for byte in others:
                alone = Parser()
                expected = [WRONG] + alone.take([byte])
                parser = after(start)
                self.assertEqual(parser.take([byte]), expected, (start, byte))
                self.assertIs(parser.resting(), alone.resting())
                self.assertEqual(parser.take([128, 65]), alone.take([128, 65]))

    def test_some_bytes_behind_it(self):
        self.assertEqual(follow([195], [65]), [WRONG, ("print", 65)])
        self.assertEqual(follow([228, 184], [10]), [WRONG, ("control", 10)])
        self.assertEqual(follow([240, 159, 152], [127]), [WRONG])
        self.assertEqual(follow([195], [24]), [WRONG])
        self.assertEqual(follow([195], [26, 65]), [WRONG, ("print", 65)])
        self.assertEqual(follow([195], [27, 68]), [WRONG, ("escape", 68)])
        self.assertEqual(follow([195], [255]), [WRONG, WRONG])
        self.assertEqual(follow([228], [195, 169]), [WRONG, ("print", 233)])
        self.assertEqual(follow([195], [195, 195, 169]), [WRONG, WRONG, ("print", 233)])

    def test_it_is_dropped(self):
        for start in UNFINISHED:
            for byte in (24, 26, 127, 65, 10):
                self.assertEqual(follow(start + [byte], [128]), [WRONG], (start, byte))
                self.assertIs(after(start + [byte]).resting(), True)
            self.assertEqual(outlook(start + [27]), outlook(ESCAPE))


if __name__ == "__main__":
    unittest.main()
