"""Points 12 and 13, and points 9 and 10 in escape and intermediate."""

import unittest

from manypanes.parser import Parser
from tests.reading import (
    ESCAPE, INTERMEDIATE, SEQUENCE, STRING, TITLE, after, controls, follow, outlook,
)

PLAIN_STRINGS = (80, 88, 94, 95)


class EscapeTest(unittest.TestCase):
    def test_not_resting(self):
        self.assertIs(after(ESCAPE).resting(), False)

    def test_escape_actions(self):
        for byte in range(48, 127):
            if byte in (91, 93) or byte in PLAIN_STRINGS:
                continue
            parser = after(ESCAPE)
            self.assertEqual(parser.take([byte]), [("escape", byte)])
            self.assertIs(parser.resting(), True)
            self.assertEqual(parser.take([byte]), [("print", byte)])

    def test_sequence(self):
        self.assertEqual(follow(ESCAPE, [91]), [])
        self.assertEqual(follow(ESCAPE, [91, 109]), [("sequence", 0, (0,), 109)])
        self.assertEqual(follow(ESCAPE, [91, 49, 109, 27, 91, 109]),
                         [("sequence", 0, (1,), 109), ("sequence", 0, (0,), 109)])

    def test_a_sequence_begins_anew(self):
        for start in ([63, 49, 59, 50, 104], [32, 49, 109], [49, 59, 50, 59, 24],
                      [63, 27], [58, 27, 77], [49, 50, 51, 195, 169]):
            self.assertEqual(outlook(SEQUENCE + start + [24] + SEQUENCE), outlook(SEQUENCE))

    def test_plain_strings(self):
        for byte in PLAIN_STRINGS:
            self.assertEqual(follow(ESCAPE, [byte]), [])
            self.assertEqual(follow(ESCAPE, [byte, 48, 59, 65, 7]), [])
            self.assertEqual(follow(ESCAPE, [byte, 48, 59, 65, 27, 92]), [])
            self.assertEqual(outlook(ESCAPE + [byte]), outlook(STRING))

    def test_title_string(self):
        self.assertEqual(follow(ESCAPE, [93]), [])
        self.assertEqual(follow(ESCAPE, [93, 48, 59, 65, 7]), [("title", (65,))])
        for byte in PLAIN_STRINGS:
            start = [27, 93, 48, 59, 65, 7, 27, byte]
            self.assertEqual(follow(start, [48, 59, 66, 7]), [])
            self.assertEqual(follow([27, byte, 7] + TITLE, [50, 59, 66, 7]), [("title", (66,))])

    def test_intermediate(self):
        for byte in range(32, 48):
            self.assertEqual(follow(ESCAPE, [byte]), [])
            self.assertIs(after(ESCAPE + [byte]).resting(), False)
            self.assertEqual(outlook(ESCAPE + [byte]), outlook(INTERMEDIATE))

    def test_bytes_from_128_on(self):
        for byte in range(128, 256):
            self.assertEqual(follow(ESCAPE, [byte]), Parser().take([byte]))
            self.assertEqual(follow(ESCAPE, [byte, 128, 128, 128]),
                             Parser().take([byte, 128, 128, 128]))
            self.assertEqual(after(ESCAPE + [byte]).resting(), after([byte]).resting())
        self.assertEqual(follow(ESCAPE, [195, 169]), [("print", 233)])

    def test_controls(self):
        for byte in controls():
            self.assertEqual(follow(ESCAPE, [byte]), [("control", byte)])
            self.assertEqual(follow(ESCAPE, [byte, 68]), [("control", byte), ("escape", 68)])
        self.assertEqual(follow(ESCAPE, [127, 68]), [("escape", 68)])
        self.assertEqual(outlook(ESCAPE + [127]), outlook(ESCAPE))
        self.assertEqual(outlook(ESCAPE + [10]), outlook(ESCAPE))

    def test_ended(self):
        for byte in (24, 26):
            self.assertEqual(follow(ESCAPE, [byte, 68]), [("print", 68)])
            self.assertIs(after(ESCAPE + [byte]).resting(), True)
        self.assertEqual(outlook(ESCAPE + [27]), outlook(ESCAPE))


class IntermediateTest(unittest.TestCase):
    def test_not_resting(self):
        self.assertIs(after(INTERMEDIATE).resting(), False)

    def test_more_of_them(self):
        for byte in range(32, 48):
            self.assertEqual(follow(INTERMEDIATE, [byte]), [])
            self.assertEqual(outlook(INTERMEDIATE + [byte]), outlook(INTERMEDIATE))

    def test_the_end(self):
        for byte in range(48, 127):
            parser = after(INTERMEDIATE)
            self.assertEqual(parser.take([byte]), [])
            self.assertIs(parser.resting(), True)
            self.assertEqual(parser.take([byte]), [("print", byte)])

    def test_no_sequences_and_strings_in_it(self):
        self.assertEqual(follow(INTERMEDIATE, [91, 109]), [("print", 109)])
        self.assertEqual(follow(INTERMEDIATE, [93, 7]), [("control", 7)])

    def test_bytes_from_128_on(self):
        for byte in range(128, 256):
            self.assertEqual(follow(INTERMEDIATE, [byte]), Parser().take([byte]))
            self.assertEqual(follow(INTERMEDIATE, [byte, 128, 128, 128]),
                             Parser().take([byte, 128, 128, 128]))
            self.assertEqual(after(INTERMEDIATE + [byte]).resting(), after([byte]).resting())

    def test_controls(self):
        for byte in controls():
            self.assertEqual(follow(INTERMEDIATE, [byte, 68, 68]),
                             [("control", byte), ("print", 68)])
        self.assertEqual(follow(INTERMEDIATE, [127, 68, 68]), [("print", 68)])
        self.assertEqual(outlook(INTERMEDIATE + [127]), outlook(INTERMEDIATE))
        self.assertEqual(outlook(INTERMEDIATE + [10]), outlook(INTERMEDIATE))

    def test_ended(self):
        for byte in (24, 26):
            self.assertEqual(follow(INTERMEDIATE, [byte, 68]), [("print", 68)])
            self.assertIs(after(INTERMEDIATE + [byte]).resting(), True)
        self.assertEqual(outlook(INTERMEDIATE + [27]), outlook(ESCAPE))


if __name__ == "__main__":
    unittest.main()
