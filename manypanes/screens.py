"""The two screens of a terminal and its history."""

from manypanes.lines import logical_text, relaid
from manypanes.rows import blank_rows

MAIN = 0
OTHER = 1


class Screens:
    """The rows of the main screen and of the other screen, one of them shown, and the history."""

    def __init__(self, width, height, limit):
        self.width = width
        self.height = height
        self.limit = limit
        self.shown = MAIN
        self.main = blank_rows(width, height)
        self.other = blank_rows(width, height)
        self.history = []

    def shown_rows(self):
        """Returns the list of the rows that are shown."""
        if self.shown == MAIN:
            return self.main
        return self.other

    def shown_row(self, at):
        """Returns a row that is shown."""
        return self.shown_rows()[at]

    def depth(self):
        """Returns the number of rows by which the shown screen can be scrolled back."""
        if self.shown == MAIN:
            return len(self.history)
        return 0

    def rows_back(self, many):
        """Returns the rows, as many as the screen has, that end a number of rows above the end of the main screen."""
        rows = self.history + self.main
        behind = len(rows) - many
        return rows[behind - len(self.main):behind]

    def set_above(self, at, continued):
        """Sets whether the row above a row is continued, if there is one."""
        if at > 0:
            above = self.shown_row(at - 1)
            above.continued = continued
        elif self.shown == MAIN and self.history:
            above = self.history[-1]
            above.continued = continued

    def scroll_up(self, first, last, many, whole):
        """Scrolls rows up; `whole` tells whether they are the region."""
        rows = self.shown_rows()
        end = rows[last]
        end.continued = False
        behind = min(first + many, last + 1)
        removed = rows[first:behind]
        rows[first:last + 1] = rows[behind:last + 1] + blank_rows(self.width, len(removed))
        if whole and first == 0 and self.shown == MAIN:
            self.history.extend(removed)
            self._cut_history()
        else:
            self.set_above(first, False)

    def scroll_down(self, first, last, many):
        """Scrolls rows down."""
        self.set_above(first, False)
        rows = self.shown_rows()
        many = min(many, last - first + 1)
        rows[first:last + 1] = blank_rows(self.width, many) + rows[first:last + 1 - many]
        end = rows[last]
        end.continued = False

    def erase_rows(self, first, behind):
        """Erases the rows from one on, up to the one before `behind`."""
        for row in self.shown_rows()[first:behind]:
            row.erase(0, self.width)

    def empty_history(self):
        """Makes the history empty."""
        self.history = []

    def show_other(self):
        """Shows the other screen, blank."""
        self.shown = OTHER
        self.other = blank_rows(self.width, self.height)

    def show_main(self):
        """Shows the main screen."""
        self.shown = MAIN

    def resize(self, width, height, mark):
        """Resizes both screens; returns where a mark of the main screen is then."""
        row, column = mark
        rows, mark = relaid(self.history + self.main, width, (len(self.history) + row, column))
        self.width = width
        self.height = height
        self._fit_other()
        above = max(0, len(rows) - height)
        self.history = rows[:above]
        self._cut_history()
        self.main = rows[above:] + blank_rows(width, height - len(rows))
        if mark[0] < above:
            return (0, 0)
        return (mark[0] - above, mark[1])

    def texts(self):
        """Returns the texts of the lines of the history and the main screen."""
        return logical_text(self.history + self.main)

    def _fit_other(self):
        kept = self.other[:self.height]
        for row in kept:
            row.fit(self.width)
        self.other = kept + blank_rows(self.width, self.height - len(kept))

    def _cut_history(self):
        del self.history[:max(0, len(self.history) - self.limit)]
