"""The examples of the interface, as they stand in the document."""

import doctest
import unittest

EXAMPLES = {
    "cells": """
>>> from manypanes.cells import is_wide, utf8
>>> [is_wide(65), is_wide(20013), utf8(233), utf8(20013)]
[False, True, [195, 169], [228, 184, 173]]
""",
    "parser, a cut character": """
>>> from manypanes.parser import Parser
>>> Parser().take([65, 27, 91, 63, 50, 53, 108, 195, 65])
[('print', 65), ('sequence', 63, (25,), 108), ('print', 65533), ('print', 65)]
""",
    "parser, a title": """
>>> from manypanes.parser import Parser
>>> Parser().take([27, 91, 59, 53, 109, 27, 93, 50, 59, 104, 105, 7, 27, 68])
[('sequence', 0, (0, 5), 109), ('title', (104, 105)), ('escape', 68)]
""",
    "styles": """
>>> from manypanes.styles import styled
>>> [styled((-1, -1, 0), (1, 31, 48, 5, 200)), styled((3, 4, 9), (22, 38, 2, 7)), styled((3, 4, 9), (0,))]
[(1, 200, 1), (3, 4, 8), (-1, -1, 0)]
""",
    "terminal, a continued row": """
>>> from manypanes.terminal import Terminal
>>> t = Terminal(4, 2)
>>> t.feed([97, 98, 99, 100, 101])
>>> (t.state()[6], t.state()[3][0][1], t.text())
((1, 1, False), True, [[97, 98, 99, 100, 101]])
""",
    "terminal, resizing": """
>>> from manypanes.terminal import Terminal
>>> t = Terminal(4, 2)
>>> t.feed([97, 98, 99, 100, 101])
>>> t.resize(3, 2)
>>> [[cell[0] for cell in row] for row in t.picture().rows]
[[97, 98, 99], [100, 101, 32]]
""",
    "layout, sharing": """
>>> from manypanes.layout import share
>>> share(20, [2, 2, 1], [5, 9, 1])
[6, 11, 1]
""",
    "layout, splitting": """
>>> from manypanes.layout import boxes, divided
>>> boxes(divided(1, 9, 4, 1, "beside", 2), 9, 4)
[(1, 0, 0, 4, 4), (2, 0, 5, 4, 4)]
""",
    "session, splitting": """
>>> from manypanes.session import Session
>>> s = Session(9, 4)
>>> (s.divide(1, "beside"), s.places())
(2, [(1, 0, 0, 4, 3), (2, 0, 5, 4, 3)])
""",
    "session, the status row": """
>>> from manypanes.session import Session
>>> s = Session(9, 4)
>>> s.write(1, [104, 105])
>>> [cell[0] for cell in s.picture().rows[3]][:4]
[91, 49, 93, 32]
""",
}


class ExampleTest(unittest.TestCase):
    def test_examples(self):
        for name, text in EXAMPLES.items():
            example = doctest.DocTestParser().get_doctest(text, {}, name, None, 0)
            told = []
            result = doctest.DocTestRunner().run(example, out=told.append)
            self.assertEqual(result.failed, 0, "".join(told))
            self.assertEqual(result.attempted, text.count(">>>"), name)


if __name__ == "__main__":
    unittest.main()
