"""Points 1, 39 and 44 to 46: splitting panes, removing them, and moving borders."""

import copy
import random
import unittest

from manypanes.errors import NoRoom, PaneError
from manypanes.layout import boxes, divided, fitted, moved, panes, without
from tests.layout_model import model_divided, model_moved, model_without
from tests.layouts import BELOW, BESIDE, DIRECTIONS, check_form, check_layout, column, drawn_layout, row


class DividedTest(unittest.TestCase):
    def test_the_only_pane(self):
        cases = [
            (9, 4, BESIDE, row((1, 4), (2, 4))),
            (10, 4, BESIDE, row((1, 5), (2, 4))),
            (5, 1, BESIDE, row((1, 2), (2, 2))),
            (6, 1, BESIDE, row((1, 3), (2, 2))),
            (400, 1, BESIDE, row((1, 200), (2, 199))),
            (9, 4, BELOW, column((1, 2), (2, 1))),
            (2, 3, BELOW, column((1, 1), (2, 1))),
            (2, 5, BELOW, column((1, 2), (2, 2))),
            (2, 200, BELOW, column((1, 100), (2, 99))),
        ]
        for width, height, direction, expected in cases:
            self.assertEqual(divided(1, width, height, 1, direction, 2), expected)

    def test_the_least_sizes(self):
        for width, height, direction in ((4, 9, BESIDE), (2, 9, BESIDE), (1, 1, BESIDE), (9, 2, BELOW), (9, 1, BELOW)):
            with self.assertRaises(NoRoom) as caught:
                divided(1, width, height, 1, direction, 2)
            self.assertIs(type(caught.exception), NoRoom)
            self.assertIsInstance(caught.exception, PaneError)
        self.assertEqual(divided(1, 5, 1, 1, BESIDE, 2), row((1, 2), (2, 2)))
        self.assertEqual(divided(1, 1, 3, 1, BELOW, 2), column((1, 1), (2, 1)))

    def test_the_size_of_the_pane_counts(self):
        layout = row((1, 4), (2, 5))
        for direction in DIRECTIONS:
            for pane in (1, 2):
                room = {BESIDE: pane == 2, BELOW: False}[direction]
                if room:
                    divided(layout, 10, 2, pane, direction, 3)
                else:
                    self.assertRaises(NoRoom, divided, layout, 10, 2, pane, direction, 3)

    def test_in_the_direction_around_it(self):
        layout = row((1, 7), (2, 7), (3, 7))
        self.assertEqual(divided(layout, 23, 4, 1, BESIDE, 4), row((1, 3), (4, 3), (2, 7), (3, 7)))
        self.assertEqual(divided(layout, 23, 4, 2, BESIDE, 4), row((1, 7), (2, 3), (4, 3), (3, 7)))
        self.assertEqual(divided(layout, 23, 4, 3, BESIDE, 4), row((1, 7), (2, 7), (3, 3), (4, 3)))
        layout = column((1, 3), (2, 4))
        self.assertEqual(divided(layout, 2, 8, 1, BELOW, 9), column((1, 1), (9, 1), (2, 4)))
        self.assertEqual(divided(layout, 2, 8, 2, BELOW, 9), column((1, 3), (2, 2), (9, 1)))

    def test_in_the_other_direction(self):
        layout = row((1, 7), (2, 7), (3, 7))
        self.assertEqual(divided(layout, 23, 4, 2, BELOW, 4), row((1, 7), (column((2, 2), (4, 1)), 7), (3, 7)))
        layout = column((1, 3), (2, 4))
        self.assertEqual(divided(layout, 8, 8, 1, BESIDE, 9), column((row((1, 4), (9, 3)), 3), (2, 4)))
        inner = row((1, 7), (column((2, 2), (4, 2)), 7))
        self.assertEqual(divided(inner, 15, 5, 4, BESIDE, 5),
                         row((1, 7), (column((2, 2), (row((4, 3), (5, 3)), 2)), 7)))
        self.assertEqual(divided(inner, 15, 9, 4, BELOW, 5),
                         row((1, 7), (column((2, 4), (4, 2), (5, 1)), 7)))

    def test_the_layout_is_fitted_first(self):
        layout = row((1, 2), (2, 2))
        self.assertEqual(divided(layout, 11, 4, 1, BESIDE, 3), row((1, 2), (3, 2), (2, 5)))
        self.assertRaises(NoRoom, divided, row((1, 50), (2, 50)), 9, 4, 1, BESIDE, 3)
        self.assertEqual(divided(column((1, 9), (2, 9)), 9, 1, 2, BESIDE, 3), column((1, 1), (row((2, 4), (3, 4)), 1)))

    def test_a_layout_larger_than_its_area(self):
        layout = row((column((1, 1), (2, 1), (3, 1)), 5), (4, 5))
        self.assertEqual(divided(layout, 1, 1, 4, BELOW, 5),
                         row((column((1, 1), (2, 1), (3, 1)), 2), (column((4, 2), (5, 2)), 2)))
        self.assertRaises(NoRoom, divided, layout, 1, 1, 4, BESIDE, 5)

    def test_drawn_layouts(self):
        for seed in range(200):
            source = random.Random(seed)
            layout = drawn_layout(source, 40, 24, 10)
            before = copy.deepcopy(layout)
            width, height = source.choice([(40, 24), (1, 1), (11, 50), (50, 5)])
            for pane in panes(layout):
                for direction in DIRECTIONS:
                    expected = model_divided(layout, width, height, pane, direction, 99)
                    if expected is None:
                        self.assertRaises(NoRoom, divided, layout, width, height, pane, direction, 99)
                    else:
                        found = divided(layout, width, height, pane, direction, 99)
                        self.assertEqual(found, expected)
                        check_form(found, self)
            self.assertEqual(layout, before)


class WithoutTest(unittest.TestCase):
    def test_first_middle_and_last(self):
        layout = row((1, 5), (2, 7), (3, 9), (4, 3))
        self.assertEqual(without(layout, 27, 4, 1), row((2, 13), (3, 9), (4, 3)))
        self.assertEqual(without(layout, 27, 4, 2), row((1, 13), (3, 9), (4, 3)))
        self.assertEqual(without(layout, 27, 4, 3), row((1, 5), (2, 17), (4, 3)))
        self.assertEqual(without(layout, 27, 4, 4), row((1, 5), (2, 7), (3, 13)))
        layout = column((1, 1), (2, 2), (3, 3))
        self.assertEqual(without(layout, 9, 8, 1), column((2, 4), (3, 3)))
        self.assertEqual(without(layout, 9, 8, 2), column((1, 4), (3, 3)))
        self.assertEqual(without(layout, 9, 8, 3), column((1, 1), (2, 6)))

    def test_one_pane_remains(self):
        for pane, rest in ((1, 2), (2, 1)):
            self.assertEqual(without(row((1, 5), (2, 7)), 13, 4, pane), rest)
            self.assertEqual(without(column((1, 5), (2, 7)), 13, 13, pane), rest)

    def test_one_part_remains_as_the_whole(self):
        inner = column((2, 2), (3, 1))
        self.assertEqual(without(row((1, 5), (inner, 7)), 13, 4, 1), inner)
        self.assertEqual(without(row((inner, 7), (1, 5)), 13, 4, 1), inner)

    def test_one_pane_remains_among_the_parts_around(self):
        layout = row((1, 5), (column((2, 2), (3, 1)), 7), (4, 9))
        self.assertEqual(without(layout, 23, 4, 2), row((1, 5), (3, 7), (4, 9)))
        self.assertEqual(without(layout, 23, 4, 3), row((1, 5), (2, 7), (4, 9)))

    def test_one_part_joins_the_parts_around(self):
        inner = row((2, 3), (3, 4), (4, 5))
        joined = row((1, 5), (2, 3), (3, 4), (4, 5), (5, 6))
        width = 5 + 1 + 14 + 1 + 6
        for parts in (((9, 2), (inner, 3)), ((inner, 3), (9, 2))):
            layout = row((1, 5), (column(*parts), 14), (5, 6))
            self.assertEqual(without(layout, width, 6, 9), joined)
        first = row((column((9, 2), (inner, 3)), 14), (5, 6))
        self.assertEqual(without(first, 21, 6, 9), row((2, 3), (3, 4), (4, 5), (5, 6)))
        last = row((5, 6), (column((inner, 3), (9, 2)), 14))
        self.assertEqual(without(last, 21, 6, 9), row((5, 6), (2, 3), (3, 4), (4, 5)))
        inner = column((2, 1), (3, 2))
        layout = column((1, 3), (row((inner, 4), (9, 4)), 4))
        self.assertEqual(without(layout, 9, 8, 9), column((1, 3), (2, 1), (3, 2)))

    def test_two_parts_remain(self):
        layout = row((1, 5), (column((9, 2), (row((2, 3), (3, 3)), 3), (4, 2)), 7))
        self.assertEqual(without(layout, 13, 9, 9), row((1, 5), (column((row((2, 3), (3, 3)), 6), (4, 2)), 7)))

    def test_what_is_in_the_grown_part_is_fitted(self):
        layout = row((column((row((1, 2), (2, 4)), 3), (3, 3)), 7), (9, 5))
        self.assertEqual(without(layout, 13, 7, 9), column((row((1, 2), (2, 10)), 3), (3, 3)))

    def test_the_layout_is_fitted_before(self):
        # The sizes that are added are those of the fitted layout.
        self.assertEqual(without(row((1, 3), (2, 3), (3, 3)), 23, 4, 1), row((2, 15), (3, 7)))
        self.assertEqual(without(row((1, 9), (2, 9), (3, 9)), 8, 4, 1), row((2, 5), (3, 2)))
        self.assertEqual(without(row((1, 9), (2, 9), (3, 9)), 1, 1, 1), row((2, 2), (3, 2)))

    def test_and_fitted_again_behind(self):
        # The pane was the reason for the height, so the others shrink with it.
        layout = row((column((1, 1), (2, 1), (9, 1)), 3), (column((3, 3), (4, 1)), 3))
        self.assertEqual(without(layout, 7, 3, 9), row((column((1, 1), (2, 1)), 3), (column((3, 1), (4, 1)), 3)))

    def test_drawn_layouts(self):
        for seed in range(200):
            source = random.Random(seed)
            layout = drawn_layout(source, 40, 24, 12)
            before = copy.deepcopy(layout)
            if len(panes(layout)) == 1:
                continue
            width, height = source.choice([(40, 24), (1, 1), (11, 50), (50, 5)])
            for pane in panes(layout):
                found = without(layout, width, height, pane)
                self.assertEqual(found, model_without(layout, width, height, pane))
                self.assertEqual(panes(found), [other for other in panes(layout) if other != pane])
                check_form(found, self)
                self.assertEqual(fitted(found, width, height), found)
            self.assertEqual(layout, before)


class MovedTest(unittest.TestCase):
    LAYOUT = row((1, 5), (2, 7), (3, 9))

    def moves(self, cases):
        for layout, width, height, pane, direction, amount, expected in cases:
            found = moved(layout, width, height, pane, direction, amount)
            self.assertEqual(found, expected, (pane, direction, amount))

    def test_amounts(self):
        layout = self.LAYOUT
        self.moves([
            (layout, 23, 4, 1, BESIDE, 0, layout),
            (layout, 23, 4, 1, BESIDE, 2, row((1, 7), (2, 5), (3, 9))),
            (layout, 23, 4, 1, BESIDE, 5, row((1, 10), (2, 2), (3, 9))),
            (layout, 23, 4, 1, BESIDE, 6, row((1, 10), (2, 2), (3, 9))),
            (layout, 23, 4, 1, BESIDE, 999999999, row((1, 10), (2, 2), (3, 9))),
            (layout, 23, 4, 1, BESIDE, -1, row((1, 4), (2, 8), (3, 9))),
            (layout, 23, 4, 1, BESIDE, -3, row((1, 2), (2, 10), (3, 9))),
            (layout, 23, 4, 1, BESIDE, -4, row((1, 2), (2, 10), (3, 9))),
            (layout, 23, 4, 1, BESIDE, -999999999, row((1, 2), (2, 10), (3, 9))),
            (layout, 23, 4, 2, BESIDE, 3, row((1, 5), (2, 10), (3, 6))),
            (column((1, 2), (2, 3)), 9, 6, 1, BELOW, 9, column((1, 4), (2, 1))),
            (column((1, 2), (2, 3)), 9, 6, 1, BELOW, -9, column((1, 1), (2, 4))),
        ])

    def test_no_such_border(self):
        layout = self.LAYOUT
        self.moves([
            (layout, 23, 4, 3, BESIDE, 2, layout),
            (layout, 23, 4, 1, BELOW, 2, layout),
            (1, 23, 4, 1, BESIDE, 2, 1),
            (row((1, 5), (column((2, 2), (3, 1)), 7)), 13, 4, 3, BELOW, -1, row((1, 5), (column((2, 2), (3, 1)), 7))),
            (row((1, 5), (column((2, 2), (3, 1)), 7)), 13, 4, 3, BESIDE, -1, row((1, 5), (column((2, 2), (3, 1)), 7))),
        ])

    def test_the_innermost_parts(self):
        inner = row((3, 4), (4, 4))
        layout = row((column((1, 2), (inner, 3)), 9), (2, 9))
        self.moves([
            # The border within, and that of the whole where the pane is in the last part within.
            (layout, 19, 6, 3, BESIDE, 1, row((column((1, 2), (row((3, 5), (4, 3)), 3)), 9), (2, 9))),
            (layout, 19, 6, 4, BESIDE, 3, row((column((1, 2), (row((3, 6), (4, 5)), 3)), 12), (2, 6))),
            (layout, 19, 6, 1, BESIDE, 3, row((column((1, 2), (row((3, 6), (4, 5)), 3)), 12), (2, 6))),
            (layout, 19, 6, 1, BELOW, 1, row((column((1, 3), (inner, 2)), 9), (2, 9))),
            (layout, 19, 6, 3, BELOW, 1, layout),
            (layout, 19, 6, 2, BESIDE, 1, layout),
        ])

    def test_the_innermost_parts_count_even_if_nothing_moves(self):
        layout = row((column((1, 2), (row((3, 6), (4, 2)), 3)), 9), (2, 9))
        self.moves([
            (layout, 19, 6, 3, BESIDE, 4, layout),
            (layout, 19, 6, 3, BESIDE, 0, layout),
        ])

    def test_least_sizes_of_parts_with_parts(self):
        first = column((1, 2), (row((3, 4), (4, 4)), 3))
        second = column((5, 2), (row((6, 2), (7, 2), (8, 4)), 3))
        layout = row((first, 9), (second, 10))
        self.moves([
            (layout, 20, 6, 1, BESIDE, 99,
             row((column((1, 2), (row((3, 5), (4, 5)), 3)), 11), (column((5, 2), (row((6, 2), (7, 2), (8, 2)), 3)), 8))),
            (layout, 20, 6, 1, BESIDE, -99,
             row((column((1, 2), (row((3, 2), (4, 2)), 3)), 5), (column((5, 2), (row((6, 2), (7, 2), (8, 8)), 3)), 14))),
        ])

    def test_the_layout_is_fitted_first(self):
        self.moves([
            (row((1, 2), (2, 2)), 11, 4, 1, BESIDE, 2, row((1, 7), (2, 3))),
            (row((1, 2), (2, 2)), 11, 4, 2, BESIDE, 2, row((1, 5), (2, 5))),
            (row((1, 20), (2, 20)), 3, 4, 1, BESIDE, 2, row((1, 2), (2, 2))),
        ])

    def test_drawn_layouts(self):
        for seed in range(200):
            source = random.Random(seed)
            layout = drawn_layout(source, 40, 24, 12)
            before = copy.deepcopy(layout)
            width, height = source.choice([(40, 24), (1, 1), (11, 50), (50, 5)])
            for pane in panes(layout):
                for direction in DIRECTIONS:
                    amount = source.choice([0, 1, -1, 5, -5, 200, -200])
                    found = moved(layout, width, height, pane, direction, amount)
                    self.assertEqual(found, model_moved(layout, width, height, pane, direction, amount))
                    self.assertEqual(panes(found), panes(layout))
                    self.assertEqual(fitted(found, width, height), found)
                    check_form(found, self)
            self.assertEqual(layout, before)


class StepsTest(unittest.TestCase):
    def test_drawn_steps(self):
        for seed in range(120):
            source = random.Random(seed)
            layout, new = 1, 2
            width, height = source.choice([(80, 24), (30, 50), (12, 6), (3, 2)])
            for _ in range(25):
                pane = source.choice(panes(layout))
                kind = source.randrange(10)
                if kind < 5:
                    try:
                        layout = divided(layout, width, height, pane, source.choice(DIRECTIONS), new)
                        new += 1
                    except NoRoom:
                        pass
                elif kind < 7 and len(panes(layout)) > 1:
                    layout = without(layout, width, height, pane)
                elif kind < 9:
                    layout = moved(layout, width, height, pane, source.choice(DIRECTIONS), source.randrange(-20, 21))
                else:
                    width, height = source.randrange(1, 90), source.randrange(1, 50)
                    layout = fitted(layout, width, height)
                check_layout(fitted(layout, width, height), width, height, self)

    def test_a_deep_layout(self):
        layout, new = 1, 1
        depth = 0
        while depth < 150:
            direction = DIRECTIONS[depth % 2]
            layout = divided(layout, 400, 199, new, direction, new + 1)
            layout = moved(layout, 400, 199, new, direction, -400)
            new += 1
            depth += 1
        self.assertEqual(panes(layout), list(range(1, 152)))
        self.assertEqual(len(boxes(layout, 400, 199)), 151)
        self.assertEqual(panes(without(layout, 400, 199, 151)), list(range(1, 151)))


if __name__ == "__main__":
    unittest.main()
