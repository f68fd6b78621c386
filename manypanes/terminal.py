"""Terminals: they read bytes, and show, keep and answer what these ask for."""

from manypanes.cells import BLANK, GAP
from manypanes.display import Display
from manypanes.parser import Parser
from manypanes.picture import Picture
from manypanes.styles import styled

PRIVATE = 63

MOVES = (65, 66, 67, 68, 69, 70, 71, 72, 73, 90, 100, 102)
ROW_EDITS = (64, 75, 80, 88)
SCREEN_EDITS = (74, 76, 77, 83, 84)

# The bytes that are answered to the questions 99 and 110.
MAKE = (27, 91, 63, 54, 99)
READY = (27, 91, 48, 110)


class Terminal:
    """A terminal that reads bytes and keeps a screen of cells."""

    def __init__(self, width, height, *, limit=100):
        self._parser = Parser()
        self._display = Display(width, height, limit)
        self._title = ()
        self._answers = []

    def feed(self, data):
        """Reads a byte list."""
        for action in self._parser.take(data):
            self._act(action)

    def resize(self, width, height):
        """Changes the width and the height."""
        self._display.resize(width, height)

    def picture(self):
        """Returns the picture that the terminal shows."""
        display = self._display
        rows = cells_shown(display.screens.shown_rows())
        cursor = (0, 0)
        if display.visible:
            cursor = (display.row, display.column)
        return Picture(display.width, display.height, rows, cursor, display.visible)

    def scrolled(self, many):
        """Returns the picture, scrolled back by a number of rows or, if they are fewer, by all of the history."""
        display = self._display
        many = min(many, display.screens.depth())
        if many < 1:
            return self.picture()
        rows = cells_shown(display.screens.rows_back(many))
        return Picture(display.width, display.height, rows, (0, 0), False)

    def heading(self):
        """Returns the title, a tuple of bytes."""
        return self._title

    def state(self):
        """Returns the state, apart from the parser and the answers."""
        display = self._display
        screens = display.screens
        return (
            display.width,
            display.height,
            screens.shown,
            rows_told(screens.main),
            rows_told(screens.other),
            rows_told(screens.history),
            (display.row, display.column, display.waits),
            display.style,
            (display.first, display.last),
            (display.wraps, display.origin, display.inserts, display.visible),
            tuple(display.tabs),
            tuple(display.saved),
            self._title,
        )

    def resting(self):
        """Tells whether the parser is in ground without an unfinished character."""
        return self._parser.resting()

    def text(self):
        """Returns the logical text, a list of lists of points."""
        return self._display.screens.texts()

    def answers(self):
        """Returns the answers and empties them."""
        answers = self._answers
        self._answers = []
        return answers

    def _act(self, action):
        kind = action[0]
        if kind == "print":
            self._display.write(action[1])
        elif kind == "control":
            self._control(action[1])
        elif kind == "escape":
            self._escape(action[1])
        elif kind == "title":
            self._title = action[1]
        elif action[1] == PRIVATE:
            self._set_private(action[2][0], action[3])
        elif action[1] == 0:
            self._sequence(action[2], action[3])

    def _control(self, byte):
        display = self._display
        if byte == 8:
            display.to_column(display.column - 1)
        elif byte == 9:
            display.tab_right(1)
        elif byte in (10, 11, 12):
            display.advance()
        elif byte == 13:
            display.to_column(0)

    def _escape(self, byte):
        display = self._display
        if byte == 55:
            display.save()
        elif byte == 56:
            display.restore()
        elif byte == 68:
            display.advance()
        elif byte == 69:
            display.to_column(0)
            display.advance()
        elif byte == 72:
            display.set_tab()
        elif byte == 77:
            display.retreat()
        elif byte == 99:
            self._display = Display(display.width, display.height, display.screens.limit)
            self._title = ()

    def _sequence(self, numbers, byte):
        if byte in MOVES:
            self._move(numbers, byte)
        elif byte in ROW_EDITS:
            self._edit_row(numbers[0], byte)
        elif byte in SCREEN_EDITS:
            self._edit_screen(numbers[0], byte)
        elif byte == 99 or byte == 110:
            self._answer(numbers[0], byte)
        else:
            self._set(numbers, byte)

    def _move(self, numbers, byte):
        """Reads the sequences that move the cursor."""
        display = self._display
        count = max(numbers[0], 1)
        if byte == 65 or byte == 70:
            display.up(count)
        elif byte == 66 or byte == 69:
            display.down(count)
        elif byte == 67:
            display.to_column(display.column + count)
        elif byte == 68:
            display.to_column(display.column - count)
        elif byte == 71:
            display.to_column(count - 1)
        elif byte == 73:
            display.tab_right(count)
        elif byte == 90:
            display.tab_left(count)
        elif byte == 100:
            display.place(count - 1, display.column)
        else:
            display.place(count - 1, max(second_of(numbers), 1) - 1)
        if byte == 69 or byte == 70:
            display.to_column(0)

    def _edit_row(self, number, byte):
        """Reads the sequences that change cells of the cursor's row."""
        display = self._display
        count = max(number, 1)
        if byte == 64:
            display.insert_blanks(count)
        elif byte == 80:
            display.remove_cells(count)
        elif byte == 88:
            display.erase_cells(count)
        elif number <= 2:
            display.erase_row(number)

    def _edit_screen(self, number, byte):
        """Reads the sequences that erase, insert, remove or move rows."""
        display = self._display
        count = max(number, 1)
        if byte == 76:
            display.insert_rows(count)
        elif byte == 77:
            display.remove_rows(count)
        elif byte == 83:
            display.scroll_up(count)
        elif byte == 84:
            display.scroll_down(count)
        elif number <= 2:
            display.erase_screen(number)
        elif number == 3:
            display.empty_history()

    def _answer(self, number, byte):
        """Reads the sequences that ask."""
        if byte == 99:
            if number == 0:
                self._answers.extend(MAKE)
        elif number == 5:
            self._answers.extend(READY)
        elif number == 6:
            self._answers.extend(self._told_cursor())

    def _told_cursor(self):
        """Returns the bytes that tell the cursor's place."""
        display = self._display
        row = display.row + 1
        if display.origin:
            row = max(row - display.first, 1)
        return [27, 91] + [ord(mark) for mark in f"{row};{display.column + 1}R"]

    def _set(self, numbers, byte):
        """Reads the sequences that set something."""
        display = self._display
        number = numbers[0]
        if byte == 103 and number == 0:
            display.clear_tab()
        elif byte == 103 and number == 3:
            display.clear_tabs()
        elif byte in (104, 108) and number == 4:
            display.inserts = byte == 104
        elif byte == 109:
            display.style = styled(display.style, numbers)
        elif byte == 114:
            self._set_region(max(number, 1), second_of(numbers))
        elif byte == 115:
            display.save()
        elif byte == 117:
            display.restore()

    def _set_region(self, first, last):
        """Sets the region to rows that are counted from 1."""
        display = self._display
        if last == 0 or last > display.height:
            last = display.height
        if first < last:
            display.set_region(first - 1, last - 1)

    def _set_private(self, number, byte):
        """Reads the private sequences that set a mode or show a screen."""
        if byte != 104 and byte != 108:
            return
        display = self._display
        on = byte == 104
        if number == 6:
            display.set_origin(on)
        elif number == 7:
            display.wraps = on
        elif number == 25:
            display.visible = on
        elif number == 1049 and on:
            display.show_other()
        elif number == 1049:
            display.show_main()


def second_of(numbers):
    """Returns the second number, or 0 if it is missing."""
    if len(numbers) > 1:
        return numbers[1]
    return 0


def cells_shown(rows):
    """Returns the cells of rows as a picture shows them, a list of lists."""
    return [[BLANK if cell == GAP else cell for cell in row.cells] for row in rows]


def rows_told(rows):
    """Returns rows as tuples of their cells and whether they are continued."""
    return tuple([(tuple(row.cells), row.continued) for row in rows])
