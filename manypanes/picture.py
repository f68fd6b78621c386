"""Pictures: what a terminal shows."""


class Picture:
    """Rows of cells, and a cursor."""

    def __init__(self, width, height, rows, cursor, visible):
        self.width = width
        self.height = height
        self.rows = [list(row) for row in rows]
        self.cursor = cursor
        self.visible = visible

    def __eq__(self, other):
        return (
            isinstance(other, Picture)
            and self.width == other.width
            and self.height == other.height
            and self.rows == other.rows
            and self.cursor == other.cursor
            and self.visible == other.visible
        )


def difference(first, second):
    """Returns the number of cells in which two pictures of the same size differ."""
    many = 0
    for row, other in zip(first.rows, second.rows):
        many += len([1 for cell, twin in zip(row, other) if cell != twin])
    return many
