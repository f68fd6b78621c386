"""Points 3 and 31: styles."""

import random
import unittest

from manypanes.styles import styled
from tests.model import model_style

PLAIN = (-1, -1, 0)
FULL = (7, 9, 15)
STYLES = [PLAIN, FULL, (0, 255, 5), (255, 0, 10), (-1, 8, 1), (8, -1, 2)]


class OneNumberTest(unittest.TestCase):
    def test_zero_makes_the_style_plain(self):
        for style in STYLES:
            self.assertEqual(styled(style, (0,)), PLAIN)

    def test_marks_are_set(self):
        for number, mark in ((1, 1), (4, 2), (5, 4), (7, 8)):
            self.assertEqual(styled(PLAIN, (number,)), (-1, -1, mark))
            self.assertEqual(styled((3, 4, 15 - mark), (number,)), (3, 4, 15))
            self.assertEqual(styled((3, 4, mark), (number,)), (3, 4, mark))

    def test_marks_are_cleared(self):
        for number, mark in ((22, 1), (24, 2), (25, 4), (27, 8)):
            self.assertEqual(styled(FULL, (number,)), (7, 9, 15 - mark))
            self.assertEqual(styled((3, 4, 15 - mark), (number,)), (3, 4, 15 - mark))
            self.assertEqual(styled(PLAIN, (number,)), PLAIN)

    def test_foregrounds(self):
        for colour in range(8):
            self.assertEqual(styled(FULL, (30 + colour,)), (colour, 9, 15))
            self.assertEqual(styled(FULL, (90 + colour,)), (colour + 8, 9, 15))
        self.assertEqual(styled(FULL, (39,)), (-1, 9, 15))

    def test_backgrounds(self):
        for colour in range(8):
            self.assertEqual(styled(FULL, (40 + colour,)), (7, colour, 15))
            self.assertEqual(styled(FULL, (100 + colour,)), (7, colour + 8, 15))
        self.assertEqual(styled(FULL, (49,)), (7, -1, 15))

    def test_other_numbers(self):
        named = {0, 1, 4, 5, 7, 22, 24, 25, 27, 38, 39, 48, 49}
        for first in (30, 40, 90, 100):
            named |= set(range(first, first + 8))
        for number in list(range(300)) + [1049, 9998, 9999]:
            if number not in named:
                for style in STYLES:
                    self.assertEqual(styled(style, (number,)), style, number)

    def test_no_numbers(self):
        self.assertEqual(styled(FULL, ()), FULL)


class LongColourTest(unittest.TestCase):
    def test_each_colour(self):
        for colour in (0, 1, 7, 8, 15, 16, 254, 255):
            self.assertEqual(styled(FULL, (38, 5, colour)), (colour, 9, 15))
            self.assertEqual(styled(FULL, (48, 5, colour)), (7, colour, 15))

    def test_the_two_numbers_are_skipped(self):
        self.assertEqual(styled(PLAIN, (38, 5, 1)), (1, -1, 0))
        self.assertEqual(styled(PLAIN, (48, 5, 4, 4)), (-1, 4, 2))
        self.assertEqual(styled((3, 4, 0), (38, 5, 0, 7)), (0, 4, 8))
        self.assertEqual(styled(PLAIN, (48, 5, 38, 38, 5, 48)), (48, 38, 0))

    def test_too_large_a_colour(self):
        for colour in (256, 257, 1000, 9999):
            for number in (38, 48):
                self.assertEqual(styled(FULL, (number, 5, colour, 0)), FULL)
                self.assertEqual(styled(FULL, (22, number, 5, colour, 0)), (7, 9, 14))

    def test_another_number_than_five(self):
        for other in (0, 1, 2, 4, 6, 38, 9999):
            for number in (38, 48):
                self.assertEqual(styled(FULL, (number, other, 7, 0, 22)), FULL)
                self.assertEqual(styled(PLAIN, (1, number, other, 7, 31)), (-1, -1, 1))

    def test_cut_off(self):
        for number in (38, 48):
            self.assertEqual(styled(FULL, (number,)), FULL)
            self.assertEqual(styled(FULL, (number, 5)), FULL)
            self.assertEqual(styled(FULL, (31, number, 5)), (1, 9, 15))
            self.assertEqual(styled(FULL, (number, 7)), FULL)


class ManyNumbersTest(unittest.TestCase):
    def test_in_their_order(self):
        self.assertEqual(styled(PLAIN, (1, 0, 4)), (-1, -1, 2))
        self.assertEqual(styled(PLAIN, (31, 32, 97, 41, 100)), (15, 8, 0))
        self.assertEqual(styled(PLAIN, (1, 4, 5, 7)), (-1, -1, 15))
        self.assertEqual(styled(FULL, (22, 24, 25, 27, 39, 49)), PLAIN)

    def test_each_pair(self):
        numbers = list(range(52)) + list(range(88, 110)) + [255, 256, 9999]
        for first in numbers:
            for second in numbers:
                style = (3, 4, 9)
                self.assertEqual(styled(style, (first, second)), model_style(style, [first, second]))

    def test_drawn(self):
        source = random.Random(30)
        likely = [0, 1, 4, 5, 7, 22, 27, 31, 38, 38, 48, 48, 5, 5, 5, 39, 49, 99, 107, 200, 255, 256]
        for _ in range(3000):
            style = source.choice(STYLES)
            numbers = tuple(source.choice(likely) for _ in range(source.randrange(17)))
            self.assertEqual(styled(style, numbers), model_style(style, list(numbers)), numbers)

    def test_the_result_is_a_tuple_of_integers(self):
        for numbers in ((), (0,), (1,), (38, 5, 3), (38,), (99,)):
            result = styled(FULL, numbers)
            self.assertIs(type(result), tuple)
            self.assertEqual([type(part) for part in result], [int, int, int])


if __name__ == "__main__":
    unittest.main()
