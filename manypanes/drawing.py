"""Drawing: the bytes that bring a terminal to a picture."""

from manypanes.cells import RIGHT_HALF, utf8

# The marks of a style, each with the number that sets it.
MARKS = ((1, 1), (2, 4), (4, 5), (8, 7))


def draw(terminal, picture):
    """Returns the bytes that bring a terminal, whose parser rests, to a picture of its size."""
    return redrawn(terminal.picture(), picture)


def redrawn(shown, picture):
    """Returns the bytes that bring a terminal from the picture that it shows to another one."""
    if shown == picture:
        return []
    brush = Brush()
    for row, cells in enumerate(picture.rows):
        if cells != shown.rows[row]:
            brush.paint_row(row, cells, shown.rows[row])
    brush.finish(picture)
    return brush.data


class Brush:
    """Collects the bytes that paint characters, whatever state the terminal is in."""

    def __init__(self):
        # Without the mode insert nothing moves, and the rows are counted from
        # the top. Turning origin off also moves the cursor, so that it does
        # not wait.
        self.data = sequence("4l") + sequence("r") + sequence("?6l")
        self._place = None
        self._style = None

    def paint_row(self, row, cells, shown):
        """Paints the characters of a row that differ from what is shown."""
        for column, cell in enumerate(cells):
            behind = column + 1
            if behind < len(cells) and cells[behind][0] == RIGHT_HALF:
                behind += 1
            if cell[0] != RIGHT_HALF and cells[column:behind] != shown[column:behind]:
                self._paint(row, column, cell)
                self._place = (row, behind)

    def finish(self, picture):
        """Shows the cursor at its place, or hides it."""
        if picture.visible:
            row, column = picture.cursor
            self._go(row, column)
            self.data.extend(sequence("?25h"))
        else:
            self.data.extend(sequence("?25l"))

    def _paint(self, row, column, cell):
        point, style = cell
        if self._place != (row, column):
            self._go(row, column)
        if self._style != style:
            self._style = style
            self.data.extend(sequence(style_numbers(style) + "m"))
        self.data.extend(utf8(point))

    def _go(self, row, column):
        self.data.extend(sequence(f"{row + 1};{column + 1}H"))


def sequence(text):
    """Returns the bytes of a sequence."""
    return [27, 91] + [ord(mark) for mark in text]


def style_numbers(style):
    """Returns the numbers that make any style this one."""
    foreground, background, marks = style
    numbers = ["0"]
    for mark, number in MARKS:
        if marks & mark:
            numbers.append(f"{number}")
    if foreground >= 0:
        numbers.append(f"38;5;{foreground}")
    if background >= 0:
        numbers.append(f"48;5;{background}")
    return ";".join(numbers)
