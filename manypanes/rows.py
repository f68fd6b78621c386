"""Rows: the cells in a row of a screen, and what changes them."""

from manypanes.cells import BLANK, GAP, RIGHT_HALF


class Row:
    """The cells of a row, and whether its text goes on in the next row."""

    def __init__(self, cells, continued):
        self.cells = list(cells)
        self.continued = continued

    def write(self, column, cells):
        """Puts cells in the place of those from a column on."""
        behind = column + len(cells)
        self._part(column)
        self._part(behind)
        self.cells[column:behind] = cells
        if behind == len(self.cells):
            self.continued = False

    def erase(self, column, behind):
        """Makes the cells from a column on, up to the one before `behind`, blanks."""
        self.write(column, [BLANK] * (behind - column))

    def insert_blanks(self, column, many):
        """Inserts blanks at a column; the cells from there on move to the right."""
        many = min(many, len(self.cells) - column)
        lost = len(self.cells) - many
        self._part(column)
        self._part(lost)
        self.cells[column:] = [BLANK] * many + self.cells[column:lost]
        self.continued = False

    def remove_cells(self, column, many):
        """Removes cells at a column; the cells behind them move to the left."""
        many = min(many, len(self.cells) - column)
        behind = column + many
        self._part(column)
        self._part(behind)
        self._blank_the_gap()
        self.cells[column:] = self.cells[behind:] + [BLANK] * many
        self.continued = False

    def fit(self, width):
        """Keeps the first cells, or puts blanks behind them; the row is not continued."""
        if width != len(self.cells):
            self._part(width)
            self._blank_the_gap()
            self.cells = self.cells[:width] + [BLANK] * (width - len(self.cells))
        self.continued = False

    def _part(self, column):
        """Makes spaces of the halves of a wide character that stand on both sides of a column's left edge."""
        # This comes before cells change or move: afterwards, halves of two
        # different characters may stand side by side as if they were one.
        if column < len(self.cells) and self.cells[column][0] == RIGHT_HALF:
            style = self.cells[column][1]
            self.cells[column - 1:column + 1] = [(32, style), (32, style)]

    def _blank_the_gap(self):
        if self.cells[-1] == GAP:
            self.cells[-1] = BLANK


def blank_rows(width, many):
    """Returns a list of blank rows."""
    return [Row([BLANK] * width, False) for _ in range(many)]
