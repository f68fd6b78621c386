"""The examples of the interface, as they stand in the document."""

import doctest
import unittest

EXAMPLES = {
    "cells": """
>>> from manypanes.cells import is_wide, utf8
>>> [is_wide(65), is_wide(20013), utf8(233), utf8(20013)]
[False, True, [195, 169], [228, 184, 173]]
""",
    "parser, a cut character": """
>>> from manypanes.parser import Parser
>>> Parser().take([65, 27, 91, 63, 50, 53, 108, 195, 65])
[('print', 65), ('sequence', 63, (25,), 108), ('print', 65533), ('print', 65)]
""",
    "parser, a title": """
>>> from manypanes.parser import Parser
>>> Parser().take([27, 91, 59, 53, 109, 27, 93, 50, 59, 104, 105, 7, 27, 68])
[('sequence', 0, (0, 5), 109), ('title', (104, 105)), ('escape', 68)]
""",
}


class ExampleTest(unittest.TestCase):
    def test_examples(self):
        for name, text in EXAMPLES.items():
            example = doctest.DocTestParser().get_doctest(text, {}, name, None, 0)
            told = []
            result = doctest.DocTestRunner().run(example, out=told.append)
            self.assertEqual(result.failed, 0, "".join(told))
            self.assertEqual(result.attempted, 2, name)


if __name__ == "__main__":
    unittest.main()
