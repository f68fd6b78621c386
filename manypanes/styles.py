"""Styles: the colours and the marks of characters."""

PLAIN = (-1, -1, 0)

# The mark that each number sets or clears.
SETTING = {1: 1, 4: 2, 5: 4, 7: 8}
CLEARING = {22: 1, 24: 2, 25: 4, 27: 8}
ALL_MARKS = 15

LONG_FOREGROUND = 38
LONG_BACKGROUND = 48
LARGEST_COLOUR = 255


def styled(style, numbers):
    """Returns the style after a style sequence with these numbers."""
    foreground, background, marks = style
    at = 0
    while at < len(numbers):
        number = numbers[at]
        if number == LONG_FOREGROUND or number == LONG_BACKGROUND:
            if not has_long_colour(numbers, at):
                break
            if number == LONG_FOREGROUND:
                foreground = numbers[at + 2]
            else:
                background = numbers[at + 2]
            at += 3
        else:
            foreground, background, marks = after_number((foreground, background, marks), number)
            at += 1
    return (foreground, background, marks)


def has_long_colour(numbers, at):
    """Tells whether 5 and a colour follow the number at this place."""
    if at + 2 >= len(numbers):
        return False
    return numbers[at + 1] == 5 and numbers[at + 2] <= LARGEST_COLOUR


def after_number(style, number):
    """Returns the style after one number that needs no further ones."""
    foreground, background, marks = style
    if number == 0:
        return PLAIN
    if number in SETTING:
        return (foreground, background, marks | SETTING[number])
    if number in CLEARING:
        return (foreground, background, marks & (ALL_MARKS - CLEARING[number]))
    foreground = short_colour(number, 30, 90, foreground)
    background = short_colour(number, 40, 100, background)
    return (foreground, background, marks)


def short_colour(number, first, bright, old):
    """Returns the colour that a number gives; `first` and `bright` give the colours 0 and 8."""
    if first <= number <= first + 7:
        return number - first
    if bright <= number <= bright + 7:
        return number - bright + 8
    if number == first + 9:
        return -1
    return old
