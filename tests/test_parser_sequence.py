"""Point 14, and points 9 and 10 in sequence."""

import unittest

from manypanes.parser import Parser
from tests.reading import ESCAPE, SEQUENCE, after, controls, follow, outlook


def digits(text):
    """Returns the bytes of a text."""
    return list(text.encode("ascii"))


def sequence(text):
    """Returns the actions of the sequence with this text."""
    return Parser().take(SEQUENCE + digits(text))


def told(numbers, byte="m", private=0):
    return [("sequence", private, tuple(numbers), ord(byte))]


class NumberTest(unittest.TestCase):
    def test_numbers(self):
        self.assertEqual(sequence("7m"), told([7]))
        self.assertEqual(sequence("12;345H"), told([12, 345], "H"))
        self.assertEqual(sequence("1234567890m"), told([9999]))
        self.assertEqual(sequence("0;00;007m"), told([0, 0, 7]))

    def test_each_digit(self):
        for digit in range(10):
            self.assertEqual(follow(SEQUENCE, [48 + digit, 109]), told([digit]))
            self.assertEqual(follow(SEQUENCE, [51, 48 + digit, 109]), told([30 + digit]))

    def test_empty_numbers(self):
        self.assertEqual(sequence("m"), told([0]))
        self.assertEqual(sequence(";m"), told([0, 0]))
        self.assertEqual(sequence(";;m"), told([0, 0, 0]))
        self.assertEqual(sequence("5;m"), told([5, 0]))
        self.assertEqual(sequence(";5m"), told([0, 5]))
        self.assertEqual(sequence("1;;2m"), told([1, 0, 2]))

    def test_large_numbers(self):
        self.assertEqual(sequence("9998m"), told([9998]))
        self.assertEqual(sequence("9999m"), told([9999]))
        self.assertEqual(sequence("10000m"), told([9999]))
        self.assertEqual(sequence("99990m"), told([9999]))
        self.assertEqual(sequence("00009998m"), told([9998]))
        self.assertEqual(sequence("1" * 500 + ";2m"), told([9999, 2]))
        self.assertEqual(sequence("9" * 4 + "0" * 500 + "m"), told([9999]))

    def test_16_and_17_numbers(self):
        for many in (15, 16):
            numbers = list(range(1, many + 1))
            self.assertEqual(sequence(";".join(map(str, numbers)) + "m"), told(numbers))
        kept = list(range(101, 117))
        for many in (17, 18, 40, 1000):
            numbers = list(range(101, 101 + many))
            self.assertEqual(sequence(";".join(map(str, numbers)) + "m"), told(kept))

    def test_empty_numbers_at_the_limit(self):
        self.assertEqual(sequence(";" * 14 + "m"), told([0] * 15))
        self.assertEqual(sequence(";" * 15 + "m"), told([0] * 16))
        self.assertEqual(sequence(";" * 15 + "8m"), told([0] * 15 + [8]))
        self.assertEqual(sequence(";" * 16 + "m"), told([0] * 16))
        self.assertEqual(sequence(";" * 15 + "8;9m"), told([0] * 15 + [8]))
        self.assertEqual(sequence(";" * 15 + ";9m"), told([0] * 16))

    def test_a_17th_number_does_not_make_it_invalid(self):
        self.assertEqual(sequence("?" + "1;" * 30 + "h"), told([1] * 16, "h", 63))


class EndTest(unittest.TestCase):
    def test_each_last_byte(self):
        for byte in range(64, 127):
            parser = after(SEQUENCE + [52])
            self.assertIs(parser.resting(), False)
            self.assertEqual(parser.take([byte]), [("sequence", 0, (4,), byte)])
            self.assertIs(parser.resting(), True)
            self.assertEqual(parser.take([byte]), [("print", byte)])

    def test_at_once(self):
        for byte in range(64, 127):
            self.assertEqual(follow(SEQUENCE, [byte]), [("sequence", 0, (0,), byte)])

    def test_bytes_from_128_on(self):
        for start in (SEQUENCE, SEQUENCE + [49, 59, 50], SEQUENCE + [63], SEQUENCE + [32]):
            for byte in range(128, 256):
                self.assertEqual(follow(start, [byte]), Parser().take([byte]))
                self.assertEqual(follow(start, [byte, 128, 128, 128]),
                                 Parser().take([byte, 128, 128, 128]))
                self.assertEqual(after(start + [byte]).resting(), after([byte]).resting())
        self.assertEqual(follow(SEQUENCE + [49], [195, 169, 109]),
                         [("print", 233), ("print", 109)])

    def test_not_resting(self):
        for text in ("", "1", "1;", "?", " ", "1 "):
            self.assertIs(after(SEQUENCE + digits(text)).resting(), False)


class PrivateTest(unittest.TestCase):
    def test_in_the_first_place(self):
        for byte in (60, 61, 62, 63):
            parser = after(SEQUENCE + [byte])
            self.assertIs(parser.resting(), False)
            self.assertEqual(parser.take([50, 53, 108]), [("sequence", byte, (25,), 108)])
            self.assertEqual(follow(SEQUENCE + [byte], [99]), [("sequence", byte, (0,), 99)])
            self.assertEqual(follow(SEQUENCE + [byte], [59, 52, 99]),
                             [("sequence", byte, (0, 4), 99)])

    def test_elsewhere(self):
        for byte in (60, 61, 62, 63):
            for start in ([49], [59], [49, 59], [60], [61], [62], [63], [63, 49], [32], [58]):
                parser = after(SEQUENCE + start + [byte])
                self.assertEqual(parser.take([49, 109]), [], (start, byte))
                self.assertIs(parser.resting(), True)

    def test_behind_bytes_of_point_10(self):
        for byte in controls():
            self.assertEqual(follow(SEQUENCE, [byte, 63, 49, 104]),
                             [("control", byte)] + told([1], "h", 63))
        self.assertEqual(follow(SEQUENCE, [127, 63, 49, 104]), told([1], "h", 63))
        self.assertEqual(follow(SEQUENCE, [127, 10, 0, 62, 49, 104]),
                         [("control", 10), ("control", 0)] + told([1], "h", 62))

    def test_it_does_not_stay(self):
        self.assertEqual(sequence("?1h") + sequence("1h"),
                         told([1], "h", 63) + told([1], "h"))
        self.assertEqual(Parser().take(SEQUENCE + [63, 49, 104] + SEQUENCE + [49, 104]),
                         told([1], "h", 63) + told([1], "h"))


class InvalidTest(unittest.TestCase):
    def test_each_byte(self):
        for byte in [*range(32, 48), 58]:
            for start in ([], [49], [49, 59], [63], [63, 49]):
                for last in range(64, 127):
                    parser = after(SEQUENCE + start + [byte])
                    self.assertIs(parser.resting(), False)
                    self.assertEqual(parser.take([last]), [], (start, byte, last))
                    self.assertIs(parser.resting(), True)

    def test_it_stays_invalid(self):
        self.assertEqual(sequence("1 2;3m"), [])
        self.assertEqual(sequence(" ?25h"), [])
        self.assertEqual(sequence("1:2;3;4m"), [])
        self.assertEqual(sequence(" ;;;;m"), [])

    def test_the_next_one_is_valid(self):
        self.assertEqual(Parser().take(SEQUENCE + [32, 109] + SEQUENCE + [49, 109]), told([1]))

    def test_behind_16_numbers(self):
        self.assertEqual(sequence("1;" * 20 + " m"), [])
        self.assertEqual(sequence("1;" * 20 + "?m"), [])

    def test_controls_in_it(self):
        self.assertEqual(follow(SEQUENCE, [32, 10, 109, 65]), [("control", 10), ("print", 65)])


class ControlTest(unittest.TestCase):
    def test_controls(self):
        for byte in controls():
            self.assertEqual(follow(SEQUENCE, [49, byte, 50, 109]), [("control", byte)] + told([12]))
            self.assertEqual(outlook(SEQUENCE + [49, byte]), outlook(SEQUENCE + [49]))
        self.assertEqual(follow(SEQUENCE, [49, 127, 50, 109]), told([12]))
        self.assertEqual(outlook(SEQUENCE + [127]), outlook(SEQUENCE))

    def test_ended(self):
        for byte in (24, 26):
            self.assertEqual(follow(SEQUENCE, [49, byte, 50, 109]), [("print", 50), ("print", 109)])
            self.assertIs(after(SEQUENCE + [49, byte]).resting(), True)
        self.assertEqual(follow(SEQUENCE, [49, 27, 68]), [("escape", 68)])
        self.assertEqual(outlook(SEQUENCE + [49, 27]), outlook(ESCAPE))
        self.assertEqual(follow(SEQUENCE, [49, 27, 91, 50, 109]), told([2]))


if __name__ == "__main__":
    unittest.main()
