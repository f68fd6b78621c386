"""What the tests of layouts share."""

from manypanes.layout import boxes, divided, fitted, least, moved, panes, without
from manypanes.errors import NoRoom

BESIDE = "beside"
BELOW = "below"
DIRECTIONS = [BESIDE, BELOW]


def row(*parts):
    """Returns parts beside each other; each part is a tuple of a layout and its size."""
    return (BESIDE, parts)


def column(*parts):
    """Returns parts below each other."""
    return (BELOW, parts)


def check_form(layout, case):
    """Checks what point 39 says of the form of a layout."""
    if isinstance(layout, int):
        return
    case.assertIs(type(layout), tuple)
    direction, parts = layout
    case.assertIn(direction, DIRECTIONS)
    case.assertIs(type(parts), tuple)
    case.assertGreaterEqual(len(parts), 2)
    for part in parts:
        case.assertIs(type(part), tuple)
        inner, size = part
        case.assertIs(type(size), int)
        if not isinstance(inner, int):
            case.assertNotEqual(inner[0], direction)
        check_form(inner, case)


def check_sizes(layout, width, height, case):
    """Checks that the parts of a fitted layout fill their area, each with its least size at least."""
    low = least(layout)
    case.assertGreaterEqual(width, low[0])
    case.assertGreaterEqual(height, low[1])
    if isinstance(layout, int):
        return
    direction, parts = layout
    total = width if direction == BESIDE else height
    case.assertEqual(sum(size for _, size in parts) + len(parts) - 1, total)
    for part, size in parts:
        if direction == BESIDE:
            check_sizes(part, size, height, case)
        else:
            check_sizes(part, width, size, case)


def check_cover(layout, width, height, case):
    """Checks that the boxes of a layout lie in the area, or the least one, and share no cell."""
    low = least(layout)
    width = max(width, low[0])
    height = max(height, low[1])
    found = boxes(layout, width, height)
    case.assertEqual([box[0] for box in found], panes(layout))
    cells = set()
    for _, top, left, wide, high in found:
        case.assertTrue(wide >= 2 and high >= 1)
        case.assertTrue(0 <= top and top + high <= height and 0 <= left and left + wide <= width)
        box = {(y, x) for y in range(top, top + high) for x in range(left, left + wide)}
        case.assertFalse(cells & box)
        cells |= box
    # Each cell between is that of a border: it has boxes or other borders on two sides.
    for y in range(height):
        for x in range(width):
            if (y, x) not in cells:
                case.assertTrue(0 < x < width - 1 or 0 < y < height - 1)


def check_layout(layout, width, height, case):
    """Checks what points 39 to 43 say of a fitted layout."""
    check_form(layout, case)
    low = least(layout)
    check_sizes(layout, max(width, low[0]), max(height, low[1]), case)
    check_cover(layout, width, height, case)
    case.assertEqual(fitted(layout, width, height), layout)


def drawn_layout(source, width, height, steps):
    """Returns a layout that came from random steps."""
    layout = 1
    for new in range(2, steps + 2):
        pane = source.choice(panes(layout))
        kind = source.randrange(8)
        try:
            if kind < 5:
                layout = divided(layout, width, height, pane, source.choice(DIRECTIONS), new)
            elif kind < 7:
                layout = moved(layout, width, height, pane, source.choice(DIRECTIONS), source.randrange(-9, 10))
            elif len(panes(layout)) > 1:
                layout = without(layout, width, height, pane)
        except NoRoom:
            pass
    return layout
