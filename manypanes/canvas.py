"""The canvas on which pictures are put together."""

from manypanes.cells import RIGHT_HALF


class Canvas:
    """Rows of cells on which others are put; what lies outside is cut off."""

    def __init__(self, width, height, cell):
        self.width = width
        self.height = height
        self.rows = [[cell] * width for _ in range(height)]

    def put(self, row, column, rows):
        """Puts rows of cells, made of whole characters, on the canvas, the first cell at a place."""
        if column >= self.width:
            return
        room = self.width - column
        for at, cells in enumerate(rows[:max(0, self.height - row)]):
            kept = cut_row(cells, room)
            target = self.rows[row + at]
            target[column:column + len(kept)] = kept

    def has(self, place):
        """Tells whether a place, a row and a column, lies on the canvas."""
        return place[0] < self.height and place[1] < self.width


def cut_row(cells, width):
    """Returns the first cells of a row, up to a width; a wide character that is cut in half becomes a space."""
    kept = list(cells[:width])
    if len(cells) > width and cells[width][0] == RIGHT_HALF:
        kept[-1] = (32, kept[-1][1])
    return kept
