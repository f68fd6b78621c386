"""What the tests of terminals share."""

import random

from manypanes.terminal import Terminal

PLAIN = (-1, -1, 0)
BLANK = (32, PLAIN)
GAP = (-1, PLAIN)

# Shorter words for the start of a sequence and of a private sequence.
CSI = "\x1b["
SET = "\x1b[?"

OTHER_ON = SET + "1049h"
OTHER_OFF = SET + "1049l"

WIDE_RANGES = [(4352, 4447), (11904, 42191), (44032, 55203), (63744, 64255),
               (65280, 65376), (127744, 129791), (131072, 262141)]


def is_wide(point):
    return any(first <= point <= last for first, last in WIDE_RANGES)


def coded(text):
    """Returns the byte list of a string."""
    return list(text.encode())


def feed(terminal, text):
    """Lets a terminal read a string, and returns it."""
    terminal.feed(coded(text))
    return terminal


def new(width, height, text="", limit=100):
    """Returns a new terminal that has read a string."""
    return feed(Terminal(width, height, limit=limit), text)


def lettered(cells):
    """Returns cells as a string, with < for a right half and | for a gap."""
    return "".join({0: "<", -1: "|"}.get(cell[0]) or chr(cell[0]) for cell in cells)


def marked(rows):
    """Returns rows of a state as strings, with + behind those that are continued."""
    return [lettered(cells) + "+" * continued for cells, continued in rows]


def shown(terminal):
    """Returns the rows of the shown screen, as `marked` does."""
    state = terminal.state()
    return marked(state[3 + state[2]])


def history(terminal):
    return marked(terminal.state()[5])


def cursor(terminal):
    return terminal.state()[6]


def at(row, column):
    """Returns the string that moves the cursor to a place counted from 0."""
    return f"{CSI}{row + 1};{column + 1}H"


def texts(terminal):
    """Returns the logical text as strings."""
    return ["".join(map(chr, line)) for line in terminal.text()]


def check_row(cells, width, case):
    """Checks what points 4 to 6 say of each row."""
    case.assertEqual(len(cells), width)
    for column, (point, style) in enumerate(cells):
        foreground, background, marks = style
        case.assertTrue(-1 <= foreground <= 255 and -1 <= background <= 255 and 0 <= marks <= 15)
        if point == -1:
            case.assertEqual((column, style), (width - 1, PLAIN))
        elif point == 0:
            case.assertTrue(column > 0 and is_wide(cells[column - 1][0]))
        else:
            case.assertTrue(32 <= point <= 1114111 and point != 127 and not 55296 <= point <= 57343)
        if point > 0 and is_wide(point):
            case.assertEqual(cells[column + 1:column + 2], ((0, style),))


def check_sound(terminal, limit, case):
    """Checks what points 4 to 6, 18, 19 and 36 say of every state."""
    state = terminal.state()
    width, height, on, main, other, past, (row, column, waits), _, region, _, tabs, saved, title = state
    case.assertEqual((len(main), len(other)), (height, height))
    case.assertLessEqual(len(past), limit)
    for cells, continued in main + other + past:
        check_row(cells, width, case)
        case.assertIsInstance(continued, bool)
    case.assertTrue(0 <= row < height and 0 <= column < width)
    case.assertTrue(not waits or column == width - 1)
    case.assertTrue(0 <= region[0] <= region[1] < height)
    case.assertEqual(list(tabs), sorted(set(tabs)))
    case.assertTrue(all(0 <= tab < width for tab in tabs))
    for place in saved:
        if place is not None:
            case.assertTrue(0 <= place[0] < height and 0 <= place[1] < width)
            case.assertTrue(not place[2] or place[1] == width - 1)
    case.assertTrue(len(title) <= 64 and all(32 <= byte <= 126 for byte in title))
    check_picture(terminal.picture(), state, case)


def check_picture(picture, state, case):
    case.assertEqual((picture.width, picture.height), state[:2])
    expected = [[BLANK if cell == GAP else cell for cell in cells] for cells, _ in state[3 + state[2]]]
    case.assertEqual(picture.rows, expected)
    visible = state[9][3]
    case.assertIs(picture.visible, visible)
    case.assertEqual(picture.cursor, state[6][:2] if visible else (0, 0))


def drawn_piece(source, width, height):
    """Returns a string that a program might write to a terminal of this size."""
    many = source.choice(["", "0", "1", "2", "3", "9", "300", str(source.randrange(width + 2))])
    second = source.choice(["", ";", ";0", ";1", ";2", f";{source.randrange(max(width, height) + 2)}"])
    kind = source.randrange(10)
    if kind < 3:
        return "".join(source.choice("abc d") for _ in range(source.randrange(1, 2 * width)))
    if kind < 5:
        return "".join(source.choice("x\u4e2d\uac00\U0001f600") for _ in range(source.randrange(1, width + 2)))
    if kind == 5:
        return source.choice(["\b", "\t", "\n", "\r", "\r\n", "\x1b7", "\x1b8", "\x1bD", "\x1bE", "\x1bH", "\x1bM"])
    if kind == 6:
        return source.choice([SET + f"{mode}{on}" for mode in (6, 7, 25, 1049) for on in "hl"]
                             + [CSI + "4h", CSI + "4l", "\x1b]0;title\x07", CSI + "c", CSI + "6n"])
    if kind == 7:
        return CSI + source.choice(["", "1", "7", "31;44", "38;5;200", "22;39", "48;5;9;4"]) + "m"
    return CSI + many + second + source.choice("@ABCDEFGHIJKLMPSTXZdfghlnrsu")


def drawn_text(seed, width, height, many):
    """Returns strings drawn for a terminal of this size; each seed gives others."""
    source = random.Random(seed)
    return [drawn_piece(source, width, height) for _ in range(many)]


def drawn_bytes(seed, many):
    """Returns a byte list of bytes of any kind."""
    source = random.Random(seed)
    return [source.choice([27, 91, 59, 63, 49, 50, source.randrange(256), source.randrange(64, 128)])
            for _ in range(many)]
