"""A client of a session."""

from manypanes.canvas import Canvas
from manypanes.cells import BLANK
from manypanes.drawing import redrawn
from manypanes.picture import Picture

# The bytes that make a terminal new, whatever state it is in.
RENEWING = (24, 27, 99)

OUTSIDE = (46, (-1, -1, 0))


class Client:
    """A terminal that is brought to pictures: its size, and what it was sent and is still to be sent."""

    def __init__(self, width, height):
        self.width = width
        self.height = height
        self._shown = None
        self._data = []
        self._sent = 0
        self.fit(width, height)

    def fit(self, width, height):
        """Takes the terminal's size; whatever the terminal showed before, it is made new."""
        self.width = width
        self.height = height
        self._shown = Picture(width, height, [[BLANK] * width for _ in range(height)], (0, 0), True)
        self._data = list(RENEWING)
        self._sent = 0

    def framed(self, picture):
        """Returns the client's picture while this is the picture of the session."""
        canvas = Canvas(self.width, self.height, OUTSIDE)
        canvas.put(0, 0, picture.rows)
        return Picture(self.width, self.height, canvas.rows, picture.cursor, picture.visible)

    def draw(self, picture):
        """Goes on to draw a client's picture, when all bytes before have been sent."""
        self._data = redrawn(self._shown, picture)
        self._sent = 0
        self._shown = picture

    def pull(self, most):
        """Returns the next bytes that are to be sent, up to a number of them."""
        data = self._data[self._sent:self._sent + most]
        self._sent += len(data)
        return data
