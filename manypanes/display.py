"""What a terminal displays: its screens with a cursor, a region, modes and tab columns."""

from manypanes.cells import GAP, character
from manypanes.screens import MAIN, Screens
from manypanes.styles import PLAIN

TAB_DISTANCE = 8


class Display:
    """The state of a terminal, apart from its title, its parser and its answers."""

    def __init__(self, width, height, limit):
        self.width = width
        self.height = height
        self.screens = Screens(width, height, limit)
        self.row = 0
        self.column = 0
        self.waits = False
        self.style = PLAIN
        self.first = 0
        self.last = height - 1
        self.wraps = True
        self.origin = False
        self.inserts = False
        self.visible = True
        self.tabs = tab_columns(1, width)
        self.saved = [None, None]

    def write(self, point):
        """Prints a character."""
        cells = character(point, self.style)
        if self.waits:
            self.wrap()
        if self.column + len(cells) > self.width:
            self._leave_last_column()
        row = self.screens.shown_row(self.row)
        if self.inserts:
            row.insert_blanks(self.column, len(cells))
        row.write(self.column, cells)
        self.column += len(cells)
        if self.column == self.width:
            self.column = self.width - 1
            self.waits = self.wraps

    def _leave_last_column(self):
        """Finds room for a wide character."""
        if self.wraps:
            self.screens.shown_row(self.row).write(self.column, [GAP])
            self.wrap()
        else:
            self.go(self.row, self.column - 1)

    def wrap(self):
        """Goes on with the text in the next row."""
        self.column = 0
        if self.advance():
            self.screens.set_above(self.row, True)

    def advance(self):
        """Advances the cursor; tells whether the region scrolled or the cursor moved down."""
        self.waits = False
        if self.row == self.last:
            self.screens.scroll_up(self.first, self.last, 1, True)
            return True
        if self.row < self.height - 1:
            self.row += 1
            return True
        return False

    def retreat(self):
        """Moves the cursor up, or scrolls the region down."""
        self.waits = False
        if self.row == self.first:
            self.screens.scroll_down(self.first, self.last, 1)
        elif self.row > 0:
            self.row -= 1

    def go(self, row, column):
        """Moves the cursor to a place on the screen."""
        self.row = row
        self.column = column
        self.waits = False

    def place(self, row, column):
        """Moves the cursor to a row, as the mode origin counts it, and a column, as far as there are such."""
        top = 0
        bottom = self.height - 1
        if self.origin:
            top = self.first
            bottom = self.last
        self.go(min(top + row, bottom), min(column, self.width - 1))

    def up(self, many):
        """Moves the cursor up."""
        top = 0
        if self.row >= self.first:
            top = self.first
        self.go(max(self.row - many, top), self.column)

    def down(self, many):
        """Moves the cursor down."""
        bottom = self.height - 1
        if self.row <= self.last:
            bottom = self.last
        self.go(min(self.row + many, bottom), self.column)

    def to_column(self, column):
        """Moves the cursor within its row, to a column or to the end of the row that is next to it."""
        self.go(self.row, max(0, min(column, self.width - 1)))

    def tab_right(self, many):
        """Moves the cursor to the tab column to its right that comes at this number."""
        right = [column for column in self.tabs if column > self.column]
        if many <= len(right):
            self.to_column(right[many - 1])
        else:
            self.to_column(self.width - 1)

    def tab_left(self, many):
        """Moves the cursor to the tab column to its left that comes at this number."""
        left = [column for column in self.tabs if column < self.column]
        if many <= len(left):
            self.to_column(left[len(left) - many])
        else:
            self.to_column(0)

    def set_tab(self):
        """Makes the cursor's column a tab column."""
        if self.column not in self.tabs:
            self.tabs = sorted(self.tabs + [self.column])

    def clear_tab(self):
        """Makes the cursor's column no tab column."""
        self.tabs = [column for column in self.tabs if column != self.column]

    def clear_tabs(self):
        """Leaves no tab columns."""
        self.tabs = []

    def insert_blanks(self, many):
        """Inserts blanks at the cursor."""
        self.screens.shown_row(self.row).insert_blanks(self.column, many)
        self.waits = False

    def remove_cells(self, many):
        """Removes cells at the cursor."""
        self.screens.shown_row(self.row).remove_cells(self.column, many)
        self.waits = False

    def erase_cells(self, many):
        """Erases cells from the cursor on."""
        self._erase(self.column, min(self.column + many, self.width))

    def erase_row(self, part):
        """Erases the cursor's row from the cursor on (0), up to the cursor (1) or whole (2)."""
        column = 0
        behind = self.width
        if part == 0:
            column = self.column
        elif part == 1:
            behind = self.column + 1
        self._erase(column, behind)

    def erase_screen(self, part):
        """Erases the screen from the cursor on (0), up to the cursor (1) or whole (2)."""
        self.erase_row(part)
        if part != 1:
            self.screens.erase_rows(self.row + 1, self.height)
        if part != 0:
            self.screens.erase_rows(0, self.row)

    def _erase(self, column, behind):
        self.screens.shown_row(self.row).erase(column, behind)
        self.waits = False

    def empty_history(self):
        """Makes the history empty."""
        self.screens.empty_history()
        self.waits = False

    def scroll_up(self, many):
        """Scrolls the region up."""
        self.screens.scroll_up(self.first, self.last, many, True)
        self.waits = False

    def scroll_down(self, many):
        """Scrolls the region down."""
        self.screens.scroll_down(self.first, self.last, many)
        self.waits = False

    def insert_rows(self, many):
        """Inserts blank rows at the cursor, if it is in the region."""
        if self.first <= self.row <= self.last:
            self.screens.scroll_down(self.row, self.last, many)
            self.to_column(0)

    def remove_rows(self, many):
        """Removes rows at the cursor, if it is in the region."""
        if self.first <= self.row <= self.last:
            self.screens.scroll_up(self.row, self.last, many, False)
            self.to_column(0)

    def set_region(self, first, last):
        """Sets the region, and moves the cursor to the first place."""
        self.first = first
        self.last = last
        self.place(0, 0)

    def set_origin(self, origin):
        """Sets the mode origin, and moves the cursor to the first place."""
        self.origin = origin
        self.place(0, 0)

    def save(self):
        """Saves the cursor for the shown screen."""
        self.saved[self.screens.shown] = (self.row, self.column, self.waits, self.style, self.origin)

    def restore(self):
        """Restores the saved cursor of the shown screen."""
        saved = self.saved[self.screens.shown]
        if saved is None:
            saved = (0, 0, False, PLAIN, False)
        self.row, self.column, self.waits, self.style, self.origin = saved

    def show_other(self):
        """Saves the cursor and shows the other screen, if the main screen is shown."""
        if self.screens.shown == MAIN:
            self.save()
            self.screens.show_other()
            self.waits = False

    def show_main(self):
        """Shows the main screen and restores its cursor, if the other screen is shown."""
        if self.screens.shown != MAIN:
            self.screens.show_main()
            self.restore()

    def resize(self, width, height):
        """Changes the width and the height."""
        if (width, height) == (self.width, self.height):
            return
        mark = self.screens.resize(width, height, self._mark())
        self.tabs = [column for column in self.tabs if column < width] + tab_columns(self.width, width)
        self.width = width
        self.height = height
        self.first = 0
        self.last = height - 1
        self.saved = [self._within(saved) for saved in self.saved]
        if self.screens.shown == MAIN:
            self.go(mark[0], mark[1])
            return
        self.go(min(self.row, height - 1), min(self.column, width - 1))
        saved = self.saved[MAIN]
        if saved is not None:
            self.saved[MAIN] = (mark[0], mark[1], False, saved[3], saved[4])

    def _mark(self):
        """Returns the place on the main screen that resizing keeps."""
        if self.screens.shown == MAIN:
            return (self.row, self.column)
        saved = self.saved[MAIN]
        if saved is None:
            return (0, 0)
        return (saved[0], saved[1])

    def _within(self, saved):
        """Returns a saved cursor as it is after resizing."""
        if saved is None:
            return None
        row, column, _, style, origin = saved
        return (min(row, self.height - 1), min(column, self.width - 1), False, style, origin)


def tab_columns(first, behind):
    """Returns the columns from one on, up to the one before `behind`, that begin as tab columns."""
    return [column for column in range(first, behind) if column % TAB_DISTANCE == 0]
