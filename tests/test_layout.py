"""Points 39 to 43: layouts, their least sizes, sharing, fitting and boxes."""

import copy
import itertools
import random
import unittest

from manypanes.layout import boxes, fitted, least, panes, share
from tests.layout_model import fit, grown, model_boxes, model_least, model_share, told
from tests.layouts import check_layout, column, drawn_layout, row

# A layout, its panes, and its least sizes.
CASES = [
    (7, [7], (2, 1)),
    (row((1, 4), (2, 4)), [1, 2], (5, 1)),
    (column((1, 4), (2, 4)), [1, 2], (2, 3)),
    (row((1, 4), (2, 4), (3, 9)), [1, 2, 3], (8, 1)),
    (column((5, 1), (4, 1), (3, 1), (9, 1)), [5, 4, 3, 9], (2, 7)),
    (row((1, 4), (column((2, 3), (3, 3)), 4)), [1, 2, 3], (5, 3)),
    (column((row((1, 4), (2, 4), (4, 4)), 3), (3, 3)), [1, 2, 4, 3], (8, 3)),
    (row((column((1, 2), (row((2, 2), (3, 2)), 2)), 5), (4, 9), (column((5, 1), (6, 1), (7, 1)), 3)),
     [1, 2, 3, 4, 5, 6, 7], (11, 5)),
]


class LeastTest(unittest.TestCase):
    def test_least_sizes(self):
        for layout, _, expected in CASES:
            found = least(layout)
            self.assertEqual(found, expected)
            self.assertIs(type(found), tuple)

    def test_sizes_do_not_count(self):
        self.assertEqual(least(row((1, 0), (2, 500))), (5, 1))
        self.assertEqual(least(column((1, 500), (2, -3))), (2, 3))

    def test_drawn_layouts(self):
        for seed in range(60):
            layout = drawn_layout(random.Random(seed), 60, 40, 20)
            node = grown(layout)
            self.assertEqual(least(layout), (model_least(node, "beside"), model_least(node, "below")))


class PanesTest(unittest.TestCase):
    def test_in_order(self):
        for layout, expected, _ in CASES:
            self.assertEqual(panes(layout), expected)

    def test_the_list_may_be_changed(self):
        layout = CASES[-1][0]
        panes(layout).clear()
        self.assertEqual(panes(layout), CASES[-1][1])


class ShareTest(unittest.TestCase):
    def test_by_hand(self):
        cases = [
            # The example of the interface: what is left goes to the first part.
            (20, [2, 2, 1], [5, 9, 1], [6, 11, 1]),
            # Exactly the least total, and less than it.
            (8, [2, 2, 2], [5, 5, 5], [2, 2, 2]),
            (7, [2, 2, 2], [5, 5, 5], [2, 2, 2]),
            (0, [2, 2, 2], [5, 5, 5], [2, 2, 2]),
            # One more than the least total.
            (9, [2, 2, 2], [5, 5, 5], [3, 2, 2]),
            # All extras 0: each counts as 1.
            (11, [2, 2, 2], [2, 2, 2], [3, 3, 3]),
            (13, [2, 2, 2], [2, 2, 2], [4, 4, 3]),
            (12, [2, 2, 2], [0, 1, -5], [4, 3, 3]),
            # What is left goes to the first parts whose extra is not 0.
            (9, [1, 1, 1], [1, 5, 1], [1, 5, 1]),
            (13, [1, 1, 1, 1], [1, 3, 3, 3], [1, 3, 3, 3]),
            (14, [1, 1, 1, 1], [1, 3, 3, 3], [1, 4, 3, 3]),
            (15, [1, 1, 1, 1], [1, 3, 3, 3], [1, 4, 4, 3]),
            # Old sizes below the least ones count as no extra.
            (20, [5, 2], [1, 4], [5, 14]),
            (20, [5, 2], [8, 4], [13, 6]),
            # The same total leaves the sizes.
            (17, [2, 2, 1], [5, 9, 1], [5, 9, 1]),
            (400, [2, 2], [199, 200], [199, 200]),
            # One part gets all.
            (9, [2], [4], [9]),
            (1, [2], [4], [2]),
        ]
        for total, smallest, sizes, expected in cases:
            found = share(total, smallest, sizes)
            self.assertEqual(found, expected, (total, smallest, sizes))
            self.assertIs(type(found), list)

    def test_small_cases(self):
        for many in (1, 2, 3):
            for smallest in itertools.product((1, 2, 4), repeat=many):
                for sizes in itertools.product((0, 1, 3, 8), repeat=many):
                    for total in range(0, 30, 3):
                        found = share(total, list(smallest), list(sizes))
                        self.assertEqual(found, model_share(total, smallest, sizes))

    def test_drawn_cases(self):
        for seed in range(500):
            source = random.Random(seed)
            many = source.randrange(1, 9)
            smallest = [source.randrange(1, 9) for _ in range(many)]
            sizes = [source.randrange(0, 60) for _ in range(many)]
            total = source.randrange(0, 400)
            found = share(total, smallest, sizes)
            self.assertEqual(found, model_share(total, smallest, sizes))
            self.assertEqual(sum(found) + many - 1, max(total, sum(smallest) + many - 1))
            self.assertTrue(all(size >= low for size, low in zip(found, smallest)))
            self.assertEqual(share(total, smallest, found), found)

    def test_lists_stay(self):
        smallest, sizes = [2, 2, 1], [5, 9, 1]
        found = share(20, smallest, sizes)
        found.clear()
        self.assertEqual((smallest, sizes), ([2, 2, 1], [5, 9, 1]))
        self.assertEqual(share(20, smallest, sizes), [6, 11, 1])


class FittedTest(unittest.TestCase):
    def test_a_pane(self):
        for width, height in ((1, 1), (2, 1), (80, 24)):
            self.assertEqual(fitted(3, width, height), 3)

    def test_by_hand(self):
        cases = [
            (row((1, 4), (2, 4)), 9, 4, row((1, 4), (2, 4))),
            (row((1, 4), (2, 4)), 10, 4, row((1, 5), (2, 4))),
            (row((1, 4), (2, 4)), 21, 1, row((1, 10), (2, 10))),
            (row((1, 3), (2, 5)), 17, 1, row((1, 5), (2, 11))),
            (column((1, 4), (2, 4)), 9, 4, column((1, 2), (2, 1))),
            # Each direction on its own.
            (row((1, 4), (column((2, 1), (3, 1)), 4)), 21, 9, row((1, 10), (column((2, 4), (3, 4)), 10))),
            # Too small in one direction and too small in both.
            (row((1, 4), (column((2, 1), (3, 5)), 4)), 3, 9, row((1, 2), (column((2, 1), (3, 7)), 2))),
            (row((1, 4), (column((2, 1), (3, 5)), 4)), 9, 2, row((1, 4), (column((2, 1), (3, 1)), 4))),
            (row((1, 4), (column((2, 1), (3, 5)), 4)), 1, 1, row((1, 2), (column((2, 1), (3, 1)), 2))),
            # A part keeps its least size, which parts of its own may need.
            (row((1, 40), (column((2, 1), (row((3, 2), (4, 2)), 1)), 5)), 9, 3,
             row((1, 3), (column((2, 1), (row((3, 2), (4, 2)), 1)), 5))),
        ]
        for layout, width, height, expected in cases:
            self.assertEqual(fitted(layout, width, height), expected, (layout, width, height))

    def test_again_it_is_the_same(self):
        for layout, _, _ in CASES:
            for width, height in itertools.product((1, 2, 5, 8, 11, 40, 400), (1, 3, 5, 9, 200)):
                check_layout(fitted(layout, width, height), width, height, self)

    def test_drawn_layouts(self):
        for seed in range(120):
            source = random.Random(seed)
            layout = drawn_layout(source, 50, 30, 14)
            before = copy.deepcopy(layout)
            width, height = source.randrange(1, 90), source.randrange(1, 60)
            found = fitted(layout, width, height)
            node = grown(layout)
            fit(node, width, height)
            self.assertEqual(found, told(node))
            self.assertEqual(layout, before)
            check_layout(found, width, height, self)


class BoxesTest(unittest.TestCase):
    def test_a_pane(self):
        self.assertEqual(boxes(3, 80, 24), [(3, 0, 0, 80, 24)])
        self.assertEqual(boxes(3, 2, 1), [(3, 0, 0, 2, 1)])
        self.assertEqual(boxes(3, 1, 1), [(3, 0, 0, 2, 1)])

    def test_by_hand(self):
        layout = row((1, 4), (column((2, 2), (3, 3)), 4), (4, 3))
        self.assertEqual(boxes(layout, 13, 6),
                         [(1, 0, 0, 4, 6), (2, 0, 5, 4, 2), (3, 3, 5, 4, 3), (4, 0, 10, 3, 6)])
        # The layout is fitted first; an area that is too small is exceeded.
        self.assertEqual(boxes(layout, 1, 1),
                         [(1, 0, 0, 2, 3), (2, 0, 3, 2, 1), (3, 2, 3, 2, 1), (4, 0, 6, 2, 3)])
        self.assertEqual(boxes(layout, 5, 9),
                         [(1, 0, 0, 2, 9), (2, 0, 3, 2, 3), (3, 4, 3, 2, 5), (4, 0, 6, 2, 9)])
        self.assertEqual(boxes(layout, 13, 2),
                         [(1, 0, 0, 4, 3), (2, 0, 5, 4, 1), (3, 2, 5, 4, 1), (4, 0, 10, 3, 3)])

    def test_the_list_may_be_changed(self):
        layout = row((1, 4), (2, 4))
        found = boxes(layout, 9, 4)
        found.clear()
        self.assertEqual(boxes(layout, 9, 4), [(1, 0, 0, 4, 4), (2, 0, 5, 4, 4)])

    def test_drawn_layouts(self):
        for seed in range(60):
            source = random.Random(seed + 500)
            layout = drawn_layout(source, 30, 20, 12)
            for width, height in ((1, 1), (7, 3), (30, 20), (33, 9), (9, 31)):
                found = boxes(layout, width, height)
                self.assertEqual(found, model_boxes(layout, width, height))
                self.assertTrue(all(type(box) is tuple for box in found))


if __name__ == "__main__":
    unittest.main()
