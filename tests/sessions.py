"""What the tests of sessions share."""

from manypanes.errors import PaneError
from manypanes.session import Session
from manypanes.terminal import Terminal
from tests.session_model import ModelSession
from tests.terminals import coded, lettered

BESIDE = "beside"
BELOW = "below"

RENEWING = [24, 27, 99]


def opened(width, height, *texts, limit=100):
    """Returns a session whose first pane has read strings."""
    session = Session(width, height, limit=limit)
    for text in texts:
        session.write(1, coded(text))
    return session


def rows_of(picture):
    """Returns the rows of a picture as strings, with < for a right half."""
    return [lettered(row) for row in picture.rows]


def shown(session):
    """Returns the rows of the session's picture as strings, without the status row."""
    return rows_of(session.picture())[:-1]


def status(session):
    return rows_of(session.picture())[-1]


def numbers(session):
    """Returns the panes that are shown."""
    return [place[0] for place in session.places()]


def told(session, panes):
    """Returns all that a session tells without being changed."""
    return (session.size(), session.places(), session.picture(), [session.screen(pane) for pane in panes])


def pulled(session, client, most=1000000):
    """Returns all bytes that there are for a client, pulled up to a number at a time."""
    data = []
    piece = session.pull(client, most)
    while piece:
        data += piece
        piece = session.pull(client, most)
    return data


class Both:
    """A session and its model, which are told the same; and terminals for its clients."""

    def __init__(self, case, width, height, limit=100):
        self.case = case
        self.session = Session(width, height, limit=limit)
        self.model = ModelSession(width, height, limit)
        self.terminals = {}
        self.log = [(width, height, limit)]

    def call(self, name, *values):
        """Calls a method of both; they return the same or raise the same."""
        self.log.append((name, *values))
        result = answer(self.session, name, values)
        expected = answer(self.model, name, values)
        self.case.assertEqual(result, expected, self.log[-40:])
        return result

    def check(self):
        """Compares all that the two tell."""
        for name in ("size", "places", "picture"):
            self.call(name)
            self.log.pop()
        for pane in self.model.terminals:
            self.call("screen", pane)
            self.log.pop()
        for client in self.model.clients:
            self.call("seen", client)
            self.log.pop()

    def check_terminals(self):
        """Compares all rows of the terminals, those of the histories too, and what the terminals answer."""
        for index, window in enumerate(self.model.windows):
            self.call("show", index)
            for pane in window.panes():
                self.call("focus", pane)
                if not window.zoomed:
                    self.call("zoom")
                self.call("write", pane, coded("\x1b[6n\x1b[?1049l\x1b[6n"))
                length = len(self.model.terminals[pane].state()[5])
                height = self.model.terminals[pane].state()[1]
                for rows in list(range(0, length, height)) + [length]:
                    self.call("back", pane, rows)
                    self.call("picture")
                self.call("taken", pane)
                # What is printed tells the cursor, the style, the modes and the tab columns.
                self.call("write", pane, coded("abc\tde\x1b8\u4e2d\t" + "x" * 30))
                self.call("picture")


def answer(target, name, values):
    """Returns what a method returns, or the class of the error of this program that it raises."""
    try:
        result = getattr(target, name)(*values)
    except PaneError as error:
        return type(error)
    return result
