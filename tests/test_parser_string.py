"""Points 15 and 16, and point 9 in string and string end."""

import unittest

from manypanes.parser import Parser
from tests.reading import (
    ESCAPE, INTERMEDIATE, SEQUENCE, STRING, STRING_END, TITLE, after, controls, follow, outlook,
)

ENDS = ([7], [27, 92])


def title(text):
    """Returns the actions of a title string with this text, for each end."""
    found = [Parser().take(TITLE + text + end) for end in ENDS]
    assert found[0] == found[1]
    return found[0]


class StringTest(unittest.TestCase):
    def test_ends(self):
        for end in ENDS:
            for start in (TITLE, STRING):
                parser = after(start + [65])
                self.assertIs(parser.resting(), False)
                parser.take(end)
                self.assertIs(parser.resting(), True)
                self.assertEqual(parser.take([65]), [("print", 65)])

    def test_bytes_without_actions(self):
        for start in (TITLE, STRING, TITLE + [48, 59]):
            for byte in range(256):
                if byte in (7, 24, 26, 27):
                    continue
                parser = after(start)
                self.assertEqual(parser.take([byte]), [])
                self.assertIs(parser.resting(), False)
                self.assertEqual(len(parser.take([7, 65])), 2 if len(start) == 4 else 1)

    def test_cancelled(self):
        for byte in (24, 26):
            for start in (TITLE + [48, 59, 65], STRING + [65], STRING_END):
                parser = after(start)
                self.assertEqual(parser.take([byte]), [])
                self.assertIs(parser.resting(), True)
                self.assertEqual(parser.take([65, 7]), [("print", 65), ("control", 7)])

    def test_byte_27(self):
        self.assertEqual(follow(TITLE, [27]), [])
        self.assertIs(after(TITLE + [27]).resting(), False)
        self.assertEqual(follow(TITLE + [27], [92, 92]), [("print", 92)])

    def test_bytes_from_128_on_are_text(self):
        self.assertEqual(follow(TITLE, [48, 59, 195, 169, 65, 7]), [("title", (65,))])
        self.assertEqual(follow(TITLE, [48, 59, 65, 156, 66, 7]), [("title", (65, 66))])
        self.assertEqual(follow(STRING, [195, 7, 169]), [("print", 65533)])


class StringEndTest(unittest.TestCase):
    def test_each_byte_is_read_as_in_escape(self):
        for start in (STRING_END, TITLE + [27], STRING + [27], STRING + [65, 27]):
            for byte in range(256):
                if byte == 92:
                    continue
                parser = after(start)
                other = after(ESCAPE)
                self.assertEqual(parser.take([byte]), other.take([byte]), (start, byte))
                self.assertIs(parser.resting(), other.resting())
                for rest in ([128], [48], [92, 65], [7]):
                    self.assertEqual(parser.take(rest), other.take(rest), (start, byte))

    def test_dropped(self):
        self.assertEqual(follow(STRING_END, [68]), [("escape", 68)])
        self.assertEqual(follow(STRING_END, [7]), [("control", 7)])
        self.assertEqual(follow(STRING_END, [7, 68, 92]), [("control", 7), ("escape", 68), ("print", 92)])
        self.assertEqual(follow(STRING_END, [10, 92]), [("control", 10), ("escape", 92)])
        self.assertEqual(follow(STRING_END, [127, 92]), [("escape", 92)])
        self.assertEqual(follow(STRING_END, [27, 92]), [("escape", 92)])
        self.assertEqual(follow(STRING_END, [195, 169]), [("print", 233)])
        self.assertEqual(follow(STRING_END, [128]), [("print", 65533)])

    def test_the_state_behind_it(self):
        for byte in controls():
            self.assertEqual(outlook(STRING_END + [byte]), outlook(ESCAPE), byte)
        self.assertEqual(outlook(STRING_END + [127]), outlook(ESCAPE))
        self.assertEqual(outlook(STRING_END + [27]), outlook(ESCAPE))
        self.assertEqual(outlook(STRING_END + [32]), outlook(INTERMEDIATE))
        self.assertEqual(outlook(STRING_END + [91]), outlook(SEQUENCE))
        self.assertEqual(outlook(STRING_END + [80]), outlook(STRING))
        self.assertEqual(outlook(STRING_END + [93]), outlook(TITLE))
        self.assertEqual(outlook(STRING_END + [68]), outlook([]))

    def test_a_dropped_text_does_not_stay(self):
        self.assertEqual(follow(STRING_END, [93, 66, 7]), [])
        self.assertEqual(follow(STRING_END, [93, 50, 59, 66, 7]), [("title", (66,))])

    def test_byte_92(self):
        self.assertEqual(follow(STRING_END, [92]), [("title", (65,))])
        self.assertIs(after(STRING_END + [92]).resting(), True)
        self.assertEqual(follow(STRING + [48, 59, 65, 27], [92]), [])
        self.assertEqual(outlook(STRING_END + [92]), outlook([]))


class TitleTest(unittest.TestCase):
    def test_beginnings(self):
        self.assertEqual(title([48, 59, 104, 105]), [("title", (104, 105))])
        self.assertEqual(title([50, 59, 104, 105]), [("title", (104, 105))])
        for byte in range(256):
            if byte not in (7, 24, 26, 27, 48, 50):
                self.assertEqual(title([byte, 59, 104]), [], byte)
            if byte not in (7, 24, 26, 27, 59):
                self.assertEqual(title([48, byte, 104]), [], byte)
                self.assertEqual(title([50, byte, 104]), [], byte)

    def test_short_texts(self):
        for text in ([], [48], [50], [59], [59, 48], [48, 48, 59], [49, 50, 59, 65]):
            self.assertEqual(title(text), [], text)
        self.assertEqual(title([48, 59]), [("title", ())])
        self.assertEqual(title([50, 59]), [("title", ())])

    def test_which_bytes_it_keeps(self):
        for byte in range(256):
            if byte in (7, 24, 26, 27):
                continue
            kept = (65, byte, 66) if 32 <= byte <= 126 else (65, 66)
            self.assertEqual(title([48, 59, 65, byte, 66]), [("title", kept)])

    def test_further_beginnings_belong_to_the_text(self):
        self.assertEqual(title([48, 59, 50, 59]), [("title", (50, 59))])

    def test_64_and_65_bytes(self):
        text = list(range(40, 104))
        self.assertEqual(title([48, 59] + text[:63]), [("title", tuple(text[:63]))])
        self.assertEqual(title([48, 59] + text), [("title", tuple(text))])
        self.assertEqual(title([48, 59] + text + [33]), [("title", tuple(text))])
        self.assertEqual(title([48, 59] + text + [33] * 500), [("title", tuple(text))])

    def test_other_bytes_do_not_count_for_the_64(self):
        text = list(range(40, 104))
        mixed = [byte for kept in text for byte in (200, kept, 10)]
        self.assertEqual(len(mixed), 192)
        self.assertEqual(title([50, 59] + mixed + [33]), [("title", tuple(text))])

    def test_256_and_257_bytes(self):
        for hidden in (251, 252, 253):
            text = [48, 59] + [9] * hidden + [65, 66]
            kept = {251: (65, 66), 252: (65, 66), 253: (65,)}[hidden]
            self.assertEqual(title(text), [("title", kept)], len(text))
        self.assertEqual(title([48, 59] + [9] * 254 + [65]), [("title", ())])
        self.assertEqual(title([48, 59] + [200] * 5000 + [65]), [("title", ())])

    def test_a_long_string_of_another_kind(self):
        self.assertEqual(follow(STRING, [65] * 5000 + [7, 66]), [("print", 66)])

    def test_a_text_does_not_stay(self):
        data = TITLE + [48, 59, 65, 7] + TITLE + [66, 7] + TITLE + [50, 59, 67, 7]
        self.assertEqual(Parser().take(data), [("title", (65,)), ("title", (67,))])


if __name__ == "__main__":
    unittest.main()
