"""A second reading of points 47 to 56, to compare sessions with.

Each pane has a terminal of its own that reads the bytes alone. The pictures are
composed cell by cell from the states of these terminals.
"""

from manypanes.errors import LastPane, NoClient, NoPane, NoRoom, NoWindow
from manypanes.picture import Picture
from manypanes.terminal import Terminal
from tests.layout_model import cover, fit, grown, leaves, model_boxes, model_divided, model_moved, model_without, told
from tests.terminals import BLANK, PLAIN, is_wide

REVERSED = (-1, -1, 8)


class ModelWindow:
    def __init__(self, pane):
        self.layout = pane
        self.focused = pane
        self.zoomed = False

    def panes(self):
        return [leaf.pane for leaf in leaves(grown(self.layout))]


class ModelSession:
    def __init__(self, width, height, limit=100):
        self.width = width
        self.height = height
        self.limit = limit
        self.terminals = {}
        self.inputs = {}
        self.scrolled = {}
        self.windows = []
        self.current = None
        self.clients = {}
        self.panes_opened = 0
        self.clients_attached = 0
        self.window()

    # What a session has.

    def need(self, pane, here=False):
        if pane not in self.terminals or (here and pane not in self.current.panes()):
            raise NoPane

    def need_client(self, client):
        if client not in self.clients:
            raise NoClient

    def all_sizes(self):
        """Returns the size that each terminal is to have."""
        sizes = {}
        for window in self.windows:
            for pane, _, _, width, height in model_boxes(window.layout, self.width, self.height - 1):
                sizes[pane] = (width, height)
            if window.zoomed:
                sizes[window.focused] = (self.width, self.height - 1)
        return sizes

    def settle(self):
        """Gives each terminal its size, as the last thing that a call does."""
        sizes = self.all_sizes()
        for pane in list(self.terminals):
            if pane not in sizes:
                del self.terminals[pane]
        for pane, (width, height) in sizes.items():
            if pane not in self.terminals:
                self.terminals[pane] = Terminal(width, height, limit=self.limit)
                self.inputs[pane] = []
                self.scrolled[pane] = 0
            elif self.terminals[pane].state()[:2] != (width, height):
                self.terminals[pane].resize(width, height)

    # Actions.

    def write(self, pane, data):
        self.need(pane)
        self.terminals[pane].feed(data)
        self.inputs[pane] += self.terminals[pane].answers()

    def press(self, data):
        self.inputs[self.current.focused] += data

    def taken(self, pane):
        self.need(pane)
        taken = self.inputs[pane]
        self.inputs[pane] = []
        return taken

    def divide(self, pane, direction):
        self.need(pane, here=True)
        new = self.panes_opened + 1
        layout = model_divided(self.current.layout, self.width, self.height - 1, pane, direction, new)
        if layout is None:
            raise NoRoom
        self.panes_opened = new
        self.current.zoomed = False
        self.current.layout = layout
        self.current.focused = new
        self.settle()
        return new

    def close(self, pane):
        self.need(pane)
        if list(self.terminals) == [pane]:
            raise LastPane
        window = [window for window in self.windows if pane in window.panes()][0]
        window.zoomed = False
        if window.layout == pane:
            at = self.windows.index(window)
            self.windows.remove(window)
            if self.current is window:
                self.current = self.windows[at - 1] if at > 0 else self.windows[0]
        else:
            window.layout = model_without(window.layout, self.width, self.height - 1, pane)
            if window.focused == pane:
                window.focused = window.panes()[0]
        self.settle()

    def focus(self, pane):
        self.need(pane, here=True)
        self.current.focused = pane
        self.settle()

    def border(self, pane, direction, amount):
        self.need(pane, here=True)
        window = self.current
        window.zoomed = False
        window.layout = model_moved(window.layout, self.width, self.height - 1, pane, direction, amount)
        self.settle()

    def zoom(self):
        self.current.zoomed = not self.current.zoomed
        self.settle()

    def window(self):
        self.panes_opened += 1
        self.current = ModelWindow(self.panes_opened)
        self.windows.append(self.current)
        self.settle()
        return self.panes_opened

    def show(self, index):
        if not 0 <= index < len(self.windows):
            raise NoWindow
        self.current = self.windows[index]

    def back(self, pane, rows):
        self.need(pane)
        self.scrolled[pane] = rows

    # Clients.

    def attach(self, width, height):
        self.clients_attached += 1
        self.clients[self.clients_attached] = (width, height)
        self.take_sizes()
        return self.clients_attached

    def detach(self, client):
        self.need_client(client)
        del self.clients[client]
        self.take_sizes()

    def refit(self, client, width, height):
        self.need_client(client)
        self.clients[client] = (width, height)
        self.take_sizes()

    def take_sizes(self):
        if self.clients:
            self.width = min(width for width, _ in self.clients.values())
            self.height = min(height for _, height in self.clients.values())
        for window in self.windows:
            node = grown(window.layout)
            fit(node, self.width, self.height - 1)
            window.layout = told(node)
        self.settle()

    # What is seen.

    def size(self):
        return (self.width, self.height)

    def places(self):
        if self.current.zoomed:
            return [(self.current.focused, 0, 0, self.width, self.height - 1)]
        return model_boxes(self.current.layout, self.width, self.height - 1)

    def screen(self, pane):
        self.need(pane)
        return self.terminals[pane].picture()

    def rows_back(self, pane):
        """Returns the number of rows by which a pane is shown scrolled back."""
        state = self.terminals[pane].state()
        return 0 if state[2] == 1 else min(self.scrolled[pane], len(state[5]))

    def cells_of(self, pane):
        """Returns the rows of cells that are shown of a pane."""
        state = self.terminals[pane].state()
        rows = state[5] + state[3] if state[2] == 0 else state[4]
        for _ in range(self.rows_back(pane)):
            rows = rows[:-1]
        return [[BLANK if cell[0] == -1 else cell for cell in cells] for cells, _ in rows[-state[1]:]]

    def picture(self):
        area = {}
        for pane, top, left, _, _ in self.places():
            for at, cells in enumerate(self.cells_of(pane)):
                for column, cell in enumerate(cells):
                    area[top + at, left + column] = cell
        if not self.current.zoomed:
            covered = cover(grown(self.current.layout), self.width, self.height - 1)
            for at, row in enumerate(covered):
                for column, mark in enumerate(row):
                    if mark in ("|", "-"):
                        area[at, column] = (ord(mark), PLAIN)
        rows = [[area.get((at, column), BLANK) for column in range(self.width)] for at in range(self.height - 1)]
        for row in rows:
            if is_wide(row[-1][0]):
                row[-1] = (32, row[-1][1])
        cursor = self.cursor()
        return Picture(self.width, self.height, rows + [self.status()], cursor or (0, 0), cursor is not None)

    def cursor(self):
        """Returns where the cursor is, or None where it is not visible."""
        pane = self.current.focused
        state = self.terminals[pane].state()
        if not state[9][3] or self.rows_back(pane) > 0:
            return None
        place = [box[1:3] for box in self.places() if box[0] == pane][0]
        row, column = place[0] + state[6][0], place[1] + state[6][1]
        return (row, column) if row < self.height - 1 and column < self.width else None

    def status(self):
        text = ""
        for number, window in enumerate(self.windows, 1):
            text += ("[%d] " if window is self.current else "%d ") % number
        text += bytes(self.terminals[self.current.focused].state()[12]).decode("ascii")
        return [(ord(mark), REVERSED) for mark in text.ljust(self.width)[:self.width]]

    def seen(self, client):
        self.need_client(client)
        width, height = self.clients[client]
        inner = self.picture()
        rows = [row + [(46, PLAIN)] * (width - self.width) for row in inner.rows]
        rows += [[(46, PLAIN)] * width for _ in range(height - self.height)]
        return Picture(width, height, rows, inner.cursor, inner.visible)
