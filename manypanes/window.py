"""A window of a session."""

from manypanes.layout import borders, boxes, divided, fitted, moved, panes, without


class Window:
    """Panes that are seen together: their layout in an area, the focused one, and whether that is zoomed."""

    def __init__(self, pane, width, height):
        self.focused = pane
        self.zoomed = False
        self._layout = pane
        self._width = width
        self._height = height

    def fit(self, width, height):
        """Fits the layout to another area."""
        self._layout = fitted(self._layout, width, height)
        self._width = width
        self._height = height

    def holds(self, pane):
        """Tells whether a pane is in the window."""
        return pane in panes(self._layout)

    def has_one_pane(self):
        """Tells whether the window has a single pane."""
        return len(panes(self._layout)) == 1

    def divide(self, pane, direction, new):
        """Splits a pane; the new one is focused."""
        self._layout = divided(self._layout, self._width, self._height, pane, direction, new)
        self.focused = new
        self.zoomed = False

    def drop(self, pane):
        """Removes a pane that is not the only one."""
        self._layout = without(self._layout, self._width, self._height, pane)
        self.zoomed = False
        if self.focused == pane:
            self.focused = panes(self._layout)[0]

    def move_border(self, pane, direction, amount):
        """Moves the border of a pane."""
        self._layout = moved(self._layout, self._width, self._height, pane, direction, amount)
        self.zoomed = False

    def places(self):
        """Returns the boxes of the panes that are shown."""
        if self.zoomed:
            return [(self.focused, 0, 0, self._width, self._height)]
        return boxes(self._layout, self._width, self._height)

    def borders(self):
        """Returns the borders that are shown."""
        if self.zoomed:
            return []
        return borders(self._layout, self._width, self._height)

    def sizes(self):
        """Returns all panes, each with the width and the height of its terminal."""
        found = []
        for pane, _, _, width, height in boxes(self._layout, self._width, self._height):
            if self.zoomed and pane == self.focused:
                width = self._width
                height = self._height
            found.append((pane, width, height))
        return found
