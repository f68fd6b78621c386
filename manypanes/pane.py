"""A pane of a session."""

from manypanes.terminal import Terminal


class Pane:
    """A terminal, the input of its program, and the rows by which it is scrolled back."""

    def __init__(self, width, height, limit):
        self.terminal = Terminal(width, height, limit=limit)
        self._rows_back = 0
        self._unread = []

    def write(self, data):
        """Lets the terminal read a byte list; its answers are input of the program."""
        self.terminal.feed(data)
        self._unread.extend(self.terminal.answers())

    def press(self, data):
        """Adds keys to the input."""
        self._unread.extend(data)

    def taken(self):
        """Returns the input and empties it."""
        taken = self._unread
        self._unread = []
        return taken

    def scroll_back(self, rows):
        """Scrolls back by a number of rows from the end."""
        self._rows_back = rows

    def view(self):
        """Returns the picture of the pane, scrolled back as it is."""
        return self.terminal.scrolled(self._rows_back)
