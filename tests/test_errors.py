"""The error classes of the interface."""

import unittest

from manypanes.errors import LastPane, NoClient, NoPane, NoRoom, NoWindow, PaneError

KINDS = [NoPane, NoRoom, LastPane, NoWindow, NoClient]


class ErrorTest(unittest.TestCase):
    def test_the_base_is_a_value_error(self):
        self.assertEqual(PaneError.__bases__, (ValueError,))

    def test_each_is_a_pane_error(self):
        for kind in KINDS:
            self.assertEqual(kind.__bases__, (PaneError,))

    def test_they_differ(self):
        for kind in KINDS:
            for other in KINDS:
                self.assertIs(issubclass(kind, other), kind is other)

    def test_raised_and_caught(self):
        for kind in KINDS:
            for caught in (kind, PaneError, ValueError):
                with self.assertRaises(caught):
                    raise kind("pane 7")

    def test_message(self):
        self.assertEqual(str(NoPane("pane 7")), "pane 7")


if __name__ == "__main__":
    unittest.main()
