"""Points 39 to 58 together: long mixed runs of a session beside a second reading, tests/session_model.py."""

import random
import unittest

from manypanes.terminal import Terminal
from tests.sessions import BELOW, BESIDE, Both
from tests.terminals import CSI, coded, drawn_bytes, drawn_text

SIZES = [(2, 2), (3, 5), (9, 4), (12, 7), (21, 10), (40, 12), (80, 24), (5, 30)]
TITLES = ["\x1b]0;title\x07", "\x1b]2;a longer title of a pane\x1b\\", "\x1b]0;\x07"]


class Run:
    """Random steps of a session and its model; the clients have terminals that read what they are sent."""

    def __init__(self, case, seed, sizes=SIZES):
        self.case = case
        self.source = random.Random(seed)
        self.sizes = sizes
        width, height = self.source.choice(sizes)
        self.both = Both(case, width, height, self.source.choice((0, 1, 5, 100)))
        self.terminals = {}

    def a_pane(self):
        """Returns a pane: mostly one of the current window, sometimes another one or none."""
        model = self.both.model
        kind = self.source.randrange(12)
        if kind == 0:
            return self.source.choice((0, -1, model.panes_opened + 1, 999999999))
        if kind < 3:
            return self.source.randrange(1, model.panes_opened + 1)
        return self.source.choice(model.current.panes())

    def a_client(self):
        attached = self.both.model.clients_attached
        if self.both.model.clients and self.source.randrange(8):
            return self.source.choice(list(self.both.model.clients))
        return self.source.randrange(attached + 2)

    def data(self):
        """Returns bytes that a program might write."""
        kind = self.source.randrange(12)
        seed = self.source.randrange(10 ** 6)
        if kind == 0:
            return coded(self.source.choice(TITLES))
        if kind == 1:
            return drawn_bytes(seed, 20)
        if kind == 2:
            return coded(CSI + "6n" + CSI + "c")
        if kind == 3:
            return coded("\r\n".join(str(number) for number in range(self.source.randrange(30))))
        return coded("".join(drawn_text(seed, 12, 6, self.source.randrange(1, 6))))

    def step(self):
        kind = self.source.randrange(100)
        direction = self.source.choice((BESIDE, BELOW))
        if kind < 32:
            self.both.call("write", self.a_pane(), self.data())
        elif kind < 44:
            self.both.call("divide", self.a_pane(), direction)
        elif kind < 50:
            self.both.call("close", self.a_pane())
        elif kind < 57:
            self.both.call("focus", self.a_pane())
        elif kind < 65:
            amount = self.source.choice((0, 1, -1, 2, -3, 7, -9, 999999999, -999999999))
            self.both.call("border", self.a_pane(), direction, amount)
        elif kind < 71:
            self.both.call("zoom")
        elif kind < 73:
            self.both.call("window")
        elif kind < 78:
            self.both.call("show", self.source.randrange(-1, len(self.both.model.windows) + 1))
        elif kind < 83:
            self.both.call("back", self.a_pane(), self.source.choice((0, 1, 2, 5, 40, 999999999)))
        elif kind < 87:
            self.both.call("press", [self.source.randrange(256) for _ in range(3)])
        elif kind < 90:
            self.both.call("taken", self.a_pane())
        else:
            self.client_step(kind)

    def client_step(self, kind):
        size = self.source.choice(self.sizes)
        if kind < 93:
            client = self.both.call("attach", *size)
            self.terminals[client] = Terminal(*size, limit=self.source.choice((0, 100)))
            self.terminals[client].feed(self.data() + self.source.choice([[], [27], [27, 91], [240], [27, 93, 48]]))
            self.terminals[client].answers()
            return
        client = self.a_client()
        if kind < 96:
            self.both.call("detach", client)
            self.terminals.pop(client, None)
        elif client in self.terminals:
            before = self.source.randrange(2)
            if before:
                self.terminals[client].resize(*size)
            self.both.call("refit", client, *size)
            if not before:
                self.terminals[client].resize(*size)
        else:
            self.both.call("refit", client, *size)

    def pull(self):
        """Lets some clients be sent bytes; those that are sent none must show their pictures."""
        for client, terminal in self.terminals.items():
            most = self.source.choice((1, 2, 3, 10, 100, 10000))
            for _ in range(self.source.randrange(4)):
                data = self.both.session.pull(client, most)
                self.case.assertLessEqual(len(data), most)
                terminal.feed(data)
                if len(data) < most:
                    self.check_client(client, terminal)

    def check_client(self, client, terminal):
        self.case.assertEqual(terminal.picture(), self.both.model.seen(client), self.both.log[-30:])
        self.case.assertEqual(self.both.session.pull(client, 1), [])
        state = terminal.state()
        self.case.assertTrue(terminal.resting())
        self.case.assertEqual((state[9][1:3], state[8]), ((False, False), (0, state[1] - 1)))

    def finish(self):
        for client, terminal in self.terminals.items():
            terminal.feed(self.both.session.pull(client, 10 ** 8))
            self.check_client(client, terminal)
        for pane in list(self.both.model.terminals):
            self.both.call("taken", pane)
        self.both.check_terminals()


class RunTest(unittest.TestCase):
    def run_all(self, seeds, steps, sizes=SIZES):
        for seed in seeds:
            run = Run(self, seed, sizes)
            for _ in range(steps):
                run.step()
                run.both.check()
                run.pull()
            run.finish()

    def test_long_runs(self):
        self.run_all(range(40), 120)

    def test_many_short_runs(self):
        self.run_all(range(1000, 1080), 25)

    def test_small_sessions(self):
        self.run_all(range(2000, 2040), 60, [(2, 2), (2, 9), (5, 3), (6, 4), (11, 2)])

    def test_a_large_session(self):
        self.run_all(range(3000, 3002), 60, [(130, 40), (101, 101)])


if __name__ == "__main__":
    unittest.main()
