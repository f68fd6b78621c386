"""Sessions: many terminals in windows, composed into one picture, and clients to which it is sent."""

from manypanes.canvas import Canvas
from manypanes.cells import BLANK
from manypanes.client import Client
from manypanes.errors import LastPane, NoClient, NoPane, NoWindow
from manypanes.pane import Pane
from manypanes.picture import Picture
from manypanes.styles import PLAIN
from manypanes.window import Window

STATUS_STYLE = (-1, -1, 8)


class Session:
    """Windows of panes, one of them the current one, and clients that see it."""

    def __init__(self, width, height, *, limit=100):
        self._width = width
        self._height = height
        self._limit = limit
        self._panes = {}
        self._opened = 0
        self._windows = []
        self._current = 0
        self._clients = {}
        self._attached = 0
        self.window()

    def write(self, pane, data):
        """The program of a pane writes a byte list."""
        self._pane(pane).write(data)

    def press(self, data):
        """Types keys to the focused pane."""
        focused = self._pane(self._shown_window().focused)
        focused.press(data)

    def taken(self, pane):
        """Returns the input of a pane and empties it."""
        return self._pane(pane).taken()

    def divide(self, pane, direction):
        """Splits a pane of the current window and returns the new pane's number."""
        window = self._window_with(pane)
        new = self._opened + 1
        window.divide(pane, direction, new)
        self._opened = new
        self._fit_panes(window)
        return new

    def close(self, pane):
        """Closes a pane of any window."""
        self._pane(pane)
        if len(self._panes) == 1:
            raise LastPane(f"pane {pane} is the last one of the session")
        holding = [at for at, window in enumerate(self._windows) if window.holds(pane)]
        window = self._windows[holding[0]]
        del self._panes[pane]
        if window.has_one_pane():
            self._remove_window(holding[0])
        else:
            window.drop(pane)
            self._fit_panes(window)

    def focus(self, pane):
        """Focuses a pane of the current window."""
        window = self._window_with(pane)
        window.focused = pane
        self._fit_panes(window)

    def border(self, pane, direction, amount):
        """Moves the border of a pane of the current window."""
        window = self._window_with(pane)
        window.move_border(pane, direction, amount)
        self._fit_panes(window)

    def zoom(self):
        """Turns the zoom of the current window."""
        window = self._shown_window()
        window.zoomed = not window.zoomed
        self._fit_panes(window)

    def window(self):
        """Opens a window and returns the number of its pane."""
        self._opened += 1
        window = Window(self._opened, self._width, self._area_height())
        self._windows.append(window)
        self._current = len(self._windows) - 1
        self._fit_panes(window)
        return self._opened

    def show(self, index):
        """Makes a window the current one."""
        if index < 0 or index >= len(self._windows):
            raise NoWindow(f"there is no window with the index {index}")
        self._current = index

    def back(self, pane, rows):
        """Scrolls a pane back by a number of rows from its end."""
        self._pane(pane).scroll_back(rows)

    def size(self):
        """Returns the width and the height."""
        return (self._width, self._height)

    def places(self):
        """Returns the boxes of the panes that are shown."""
        return self._shown_window().places()

    def screen(self, pane):
        """Returns the picture of a pane's terminal, not scrolled back."""
        return self._pane(pane).terminal.picture()

    def picture(self):
        """Returns the picture of the session."""
        window = self._shown_window()
        canvas = Canvas(self._width, self._height - 1, BLANK)
        cursor = (0, 0)
        visible = False
        for pane, row, column, _, _ in window.places():
            view = self._panes[pane].view()
            canvas.put(row, column, view.rows)
            place = (row + view.cursor[0], column + view.cursor[1])
            if pane == window.focused and view.visible and canvas.has(place):
                cursor = place
                visible = True
        for point, row, column, width, height in window.borders():
            canvas.put(row, column, [[(point, PLAIN)] * width] * height)
        return Picture(self._width, self._height, canvas.rows + [self._status_row()], cursor, visible)

    def attach(self, width, height):
        """Attaches a client and returns its number."""
        self._attached += 1
        self._clients[self._attached] = Client(width, height)
        self._fit_clients()
        return self._attached

    def detach(self, client):
        """Detaches a client."""
        self._client(client)
        del self._clients[client]
        self._fit_clients()

    def refit(self, client, width, height):
        """Takes the new size of a client's terminal."""
        self._client(client).fit(width, height)
        self._fit_clients()

    def seen(self, client):
        """Returns the picture of a client."""
        return self._client(client).framed(self.picture())

    def pull(self, client, most):
        """Returns the next bytes for a client, up to a number of them."""
        receiver = self._client(client)
        data = receiver.pull(most)
        if len(data) < most:
            receiver.draw(self.seen(client))
            data.extend(receiver.pull(most - len(data)))
        return data

    def _pane(self, number):
        if number not in self._panes:
            raise NoPane(f"there is no pane {number}")
        return self._panes[number]

    def _client(self, number):
        if number not in self._clients:
            raise NoClient(f"there is no client {number}")
        return self._clients[number]

    def _shown_window(self):
        return self._windows[self._current]

    def _window_with(self, pane):
        """Returns the current window, in which a pane must be."""
        window = self._shown_window()
        if not window.holds(pane):
            raise NoPane(f"there is no pane {pane} in the current window")
        return window

    def _area_height(self):
        # A terminal has a row, even where the status row leaves none for it.
        return max(1, self._height - 1)

    def _remove_window(self, at):
        self._windows.pop(at)
        if at <= self._current:
            self._current = max(0, self._current - 1)

    def _fit_panes(self, window):
        """Gives the terminals of a window's panes their sizes; opens those that are new."""
        for pane, width, height in window.sizes():
            if pane in self._panes:
                self._panes[pane].terminal.resize(width, height)
            else:
                self._panes[pane] = Pane(width, height, self._limit)

    def _fit_clients(self):
        """Gives the session the largest size that all of its clients can show."""
        clients = list(self._clients.values())
        if not clients:
            return
        self._width = min([client.width for client in clients])
        self._height = min([client.height for client in clients])
        for window in self._windows:
            window.fit(self._width, self._area_height())
            self._fit_panes(window)

    def _status_row(self):
        """Returns the cells that tell the windows and the title of the focused pane."""
        words = []
        for at in range(len(self._windows)):
            words.append(f"[{at + 1}]" if at == self._current else f"{at + 1}")
        title = self._pane(self._shown_window().focused).terminal.heading()
        points = [ord(mark) for mark in " ".join(words) + " "] + list(title)
        points = points[:self._width] + [32] * (self._width - len(points))
        return [(point, STATUS_STYLE) for point in points]
