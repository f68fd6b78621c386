"""The errors of the program."""


class PaneError(ValueError):
    """The base class of all errors of the program."""


class NoPane(PaneError):
    """There is no pane with this number, or not where it was asked for."""


class NoRoom(PaneError):
    """The pane is too small to be split."""


class LastPane(PaneError):
    """The last pane of a session is not closed."""


class NoWindow(PaneError):
    """There is no window with this index."""


class NoClient(PaneError):
    """There is no client with this number."""
