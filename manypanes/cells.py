"""Points and cells: the numbers of characters, how wide they are, their bytes and their cells."""

BLANK = (32, (-1, -1, 0))
GAP = (-1, (-1, -1, 0))
RIGHT_HALF = 0

WIDE_RANGES = (
    (4352, 4447),
    (11904, 42191),
    (44032, 55203),
    (63744, 64255),
    (65280, 65376),
    (127744, 129791),
    (131072, 262141),
)


def is_point(number):
    """Tells whether a number is that of a character."""
    if number == 127 or 55296 <= number <= 57343:
        return False
    return 32 <= number <= 1114111


def is_wide(point):
    """Tells whether a point takes two cells."""
    for first, last in WIDE_RANGES:
        if first <= point <= last:
            return True
    return False


def utf8(point):
    """Returns the fewest bytes from which a parser prints the point."""
    if point < 128:
        return [point]
    last = 128 + point % 64
    if point < 2048:
        return [192 + point // 64, last]
    second_last = 128 + point // 64 % 64
    if point < 65536:
        return [224 + point // 4096, second_last, last]
    return [240 + point // 262144, 128 + point // 4096 % 64, second_last, last]


def character(point, style):
    """Returns the cells of a character, a list of one or two."""
    if is_wide(point):
        return [(point, style), (RIGHT_HALF, style)]
    return [(point, style)]
