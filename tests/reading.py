"""What the tests of the parser share."""

from manypanes.parser import Parser

ESCAPE = [27]
INTERMEDIATE = [27, 32]
SEQUENCE = [27, 91]
STRING = [27, 80]
TITLE = [27, 93]
STRING_END = [27, 93, 48, 59, 65, 27]

# Bytes after which a parser is in ground, however it stood before them.
TO_GROUND = [24]

# Byte lists that tell states and their contents apart.
PROBES = [[byte] for byte in range(256)] + [
    [byte, 92, 7, 65] for byte in range(256)
] + [
    [128, 128, 128, 128],
    [191, 191, 191, 65],
    [49, 59, 50, 109],
    [63, 49, 104],
    [48, 59, 65, 66, 7, 67],
    [59, 65, 66, 7, 67],
    [48, 59, 65, 66, 27, 92, 67],
    [48, 59, 65, 66, 27, 65, 67],
    [91, 49, 109],
    [93, 50, 59, 104, 7, 65],
]


def after(data):
    """Returns a new parser that has read a byte list."""
    parser = Parser()
    parser.take(data)
    return parser


def follow(start, rest):
    """Returns the actions of `rest` behind `start`."""
    return after(start).take(rest)


def outlook(data):
    """Returns what a parser that has read `data` does next, for each probe."""
    return [after(data).resting()] + [follow(data, probe) for probe in PROBES]


def controls():
    """Returns the bytes below 32 that points 9 and 10 read as controls."""
    return [byte for byte in range(32) if byte not in (24, 26, 27)]
