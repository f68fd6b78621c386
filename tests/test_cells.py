"""Points 4 and 11: points, wide points and their bytes."""

import unittest

from manypanes.cells import is_point, is_wide, utf8
from manypanes.parser import Parser

POINT_RANGES = [(32, 126), (128, 55295), (57344, 1114111)]

WIDE_RANGES = [
    (4352, 4447),
    (11904, 42191),
    (44032, 55203),
    (63744, 64255),
    (65280, 65376),
    (127744, 129791),
    (131072, 262141),
]

NO_POINTS = [
    -(10 ** 30), -1114111, -65, -2, -1, 0, 1, 7, 27, 31, 127, 55296, 55297, 56319,
    56320, 57342, 57343, 1114112, 1114113, 2097151, 2097152, 10 ** 9, 10 ** 30,
]


class PointTest(unittest.TestCase):
    def test_bounds(self):
        for first, last in POINT_RANGES:
            for number in (first, first + 1, last - 1, last):
                self.assertIs(is_point(number), True, number)

    def test_no_points(self):
        for number in NO_POINTS:
            self.assertIs(is_point(number), False, number)

    def test_all_numbers(self):
        found = [number for number in range(-300, 1114500) if is_point(number)]
        expected = []
        for first, last in POINT_RANGES:
            expected.extend(range(first, last + 1))
        self.assertEqual(found, expected)


class WideTest(unittest.TestCase):
    def test_bounds(self):
        for first, last in WIDE_RANGES:
            for number in (first, first + 1, last - 1, last):
                self.assertIs(is_wide(number), True, number)
            for number in (first - 2, first - 1, last + 1, last + 2):
                self.assertIs(is_wide(number), False, number)

    def test_narrow(self):
        for number in (-20013, -1, 0, 31, 32, 65, 126, 127, 128, 233, 2047, 2048, 4351,
                       55204, 65279, 65533, 65536, 129792, 262142, 1114111, 1114112,
                       10 ** 30):
            self.assertIs(is_wide(number), False, number)

    def test_all_numbers(self):
        found = [number for number in range(-300, 1114500) if is_wide(number)]
        expected = []
        for first, last in WIDE_RANGES:
            expected.extend(range(first, last + 1))
        self.assertEqual(found, expected)


def sample_of_points():
    """Returns points of every range, with the bounds of the numbers of bytes."""
    sample = [32, 33, 65, 125, 126, 128, 129, 2046, 2047, 2048, 2049, 55294, 55295,
              57344, 57345, 65532, 65533, 65534, 65535, 65536, 65537, 1114110, 1114111]
    for first, last in WIDE_RANGES:
        sample.extend([first - 1, first, last, last + 1])
    sample.extend(range(128, 2048))
    sample.extend(range(2048, 1114112, 97))
    return [number for number in sample if is_point(number)]


class BytesTest(unittest.TestCase):
    def test_known(self):
        self.assertEqual(utf8(32), [32])
        self.assertEqual(utf8(126), [126])
        self.assertEqual(utf8(128), [194, 128])
        self.assertEqual(utf8(2047), [223, 191])
        self.assertEqual(utf8(2048), [224, 160, 128])
        self.assertEqual(utf8(55295), [237, 159, 191])
        self.assertEqual(utf8(57344), [238, 128, 128])
        self.assertEqual(utf8(65535), [239, 191, 191])
        self.assertEqual(utf8(65536), [240, 144, 128, 128])
        self.assertEqual(utf8(1114111), [244, 143, 191, 191])

    def test_a_parser_prints_the_point(self):
        for point in sample_of_points():
            data = utf8(point)
            self.assertIs(type(data), list)
            self.assertEqual(data, list(chr(point).encode()))
            parser = Parser()
            self.assertEqual(parser.take(data), [("print", point)])
            self.assertIs(parser.resting(), True)

    def test_as_few_bytes_as_possible(self):
        for first, last, many in ((32, 126, 1), (128, 2047, 2), (2048, 65535, 3),
                                  (65536, 1114111, 4)):
            for point in (first, first + 1, last - 1, last):
                self.assertEqual(len(utf8(point)), many, point)

    def test_a_returned_list_may_be_changed(self):
        utf8(233).append(65)
        utf8(65).clear()
        self.assertEqual(utf8(233), [195, 169])
        self.assertEqual(utf8(65), [65])


if __name__ == "__main__":
    unittest.main()
