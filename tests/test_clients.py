"""Points 38, 49 and 56 to 58: clients, their pictures, and what they are sent."""

import random
import unittest

from manypanes.picture import difference
from manypanes.session import Session
from manypanes.terminal import Terminal
from tests.sessions import BELOW, BESIDE, RENEWING, opened, pulled, rows_of
from tests.terminals import CSI, OTHER_ON, PLAIN, SET, coded, drawn_bytes, drawn_text, new

WIDE = "\u4e2d"

# States of a terminal, some of them inside of a sequence, a string or a character.
STATES = [
    "", "text\r\nmore" * 20, OTHER_ON + "xyz", CSI + "4h" + SET + "7l" + CSI + "2;3r" + SET + "6h" + SET + "25l",
    CSI + "31;7m\x1b7" + WIDE * 30, "\x1b", CSI, CSI + "12;", CSI + "?25", "\x1b]0;title", "\x1b]0;a\x1b", "\x1bP", "\x1b(",
]


def scene(width=20, height=6):
    """Returns a session with something to see."""
    session = opened(width, height, "\x1b]0;name\x07" + "ab" + CSI + "31m" + WIDE + CSI + "7mxyz")
    session.divide(1, BESIDE)
    session.write(2, coded("right" + CSI + "2;2H"))
    return session


class ClientCase(unittest.TestCase):
    def check(self, session, client, terminal):
        """Checks that a terminal shows the client's picture, and rests with the modes of point 37."""
        self.assertEqual(terminal.picture(), session.seen(client))
        state = terminal.state()
        self.assertTrue(terminal.resting())
        self.assertEqual(state[9][1:3], (False, False))
        self.assertEqual(state[8], (0, state[1] - 1))
        self.assertEqual(terminal.answers(), [])

    def serve(self, session, client, terminal, most=1000000):
        """Lets a terminal read all that there is for a client, and checks it."""
        data = pulled(session, client, most)
        terminal.feed(data)
        self.check(session, client, terminal)
        return data


class SizeTest(unittest.TestCase):
    def test_numbers(self):
        session = Session(9, 4)
        self.assertEqual([session.attach(9, 4) for _ in range(3)], [1, 2, 3])
        session.detach(3)
        session.detach(1)
        self.assertEqual(session.attach(9, 4), 4)

    def test_the_least_width_and_height(self):
        session = Session(40, 20)
        self.assertEqual(session.size(), (40, 20))
        first = session.attach(60, 10)
        self.assertEqual(session.size(), (60, 10))
        second = session.attach(30, 15)
        self.assertEqual(session.size(), (30, 10))
        third = session.attach(400, 200)
        self.assertEqual(session.size(), (30, 10))
        session.refit(second, 90, 2)
        self.assertEqual(session.size(), (60, 2))
        session.detach(first)
        self.assertEqual(session.size(), (90, 2))
        session.detach(second)
        self.assertEqual(session.size(), (400, 200))
        session.refit(third, 2, 2)
        self.assertEqual(session.size(), (2, 2))

    def test_the_size_stays_without_clients(self):
        session = Session(40, 20)
        client = session.attach(12, 7)
        session.detach(client)
        self.assertEqual((session.size(), session.places()), ((12, 7), [(1, 0, 0, 12, 6)]))
        session.attach(13, 8)
        self.assertEqual((session.size(), session.places()), ((13, 8), [(1, 0, 0, 13, 7)]))

    def test_the_picture_has_the_size(self):
        session = Session(40, 20)
        session.attach(5, 3)
        self.assertEqual((session.picture().width, session.picture().height), (5, 3))
        self.assertEqual(rows_of(session.picture()), ["     ", "     ", "[1]  "])


class SeenTest(unittest.TestCase):
    def test_a_client_of_the_sessions_size(self):
        session = scene()
        client = session.attach(20, 6)
        self.assertEqual(session.seen(client), session.picture())

    def test_a_larger_client(self):
        session = opened(9, 4, "abc")
        large = session.attach(7, 5)
        session.attach(5, 3)
        self.assertEqual(rows_of(session.seen(large)), ["abc  ..", "     ..", "[1]  ..", ".......", "......."])
        self.assertEqual(session.seen(large).rows[0][5:], [(46, PLAIN)] * 2)
        self.assertEqual(session.seen(large).rows[4], [(46, PLAIN)] * 7)
        picture = session.seen(large)
        self.assertEqual((picture.width, picture.height, picture.cursor, picture.visible), (7, 5, (0, 3), True))

    def test_larger_in_one_direction(self):
        session = Session(9, 4)
        wide, high = session.attach(5, 2), session.attach(3, 4)
        self.assertEqual(rows_of(session.seen(wide)), ["   ..", "[1].."])
        self.assertEqual(rows_of(session.seen(high)), ["   ", "[1]", "...", "..."])

    def test_a_hidden_cursor(self):
        session = opened(9, 4, "abc" + SET + "25l")
        client = session.attach(9, 4)
        self.assertEqual((session.seen(client).cursor, session.seen(client).visible), ((0, 0), False))

    def test_asked_again(self):
        session = scene()
        client = session.attach(30, 9)
        session.attach(20, 6)
        first = session.seen(client)
        second = session.seen(client)
        self.assertEqual(first, second)
        first.rows[0][0] = (97, (1, 1, 1))
        first.rows.pop()
        first.cursor = (9, 9)
        first.visible = False
        self.assertEqual(session.seen(client), second)
        pulled(session, client)
        self.assertEqual(session.seen(client), second)

    def test_changed_answers_do_not_reach_what_is_sent(self):
        session = scene()
        client = session.attach(20, 6)
        terminal = Terminal(20, 6)
        terminal.feed(pulled(session, client))
        session.seen(client).rows[0].clear()
        session.picture().rows[1].clear()
        self.assertEqual(pulled(session, client), [])
        self.assertEqual(terminal.picture(), session.seen(client))

    def test_resized(self):
        session = Session(9, 4)
        client = session.attach(5, 3)
        session.attach(9, 2)
        session.refit(client, 6, 4)
        self.assertEqual(rows_of(session.seen(client)), ["      ", "[1]   ", "......", "......"])


class PullTest(ClientCase):
    def test_the_first_bytes(self):
        session = scene()
        client = session.attach(20, 6)
        self.assertEqual(session.pull(client, 3), RENEWING)
        self.assertEqual(pulled(session, client)[:1], [27])
        one = session.attach(20, 6)
        self.assertEqual([session.pull(one, 1) for _ in range(3)], [[24], [27], [99]])
        two = session.attach(20, 6)
        self.assertEqual([session.pull(two, 2)], [[24, 27]])
        self.assertEqual(session.pull(two, 2)[:1], [99])

    def test_at_most_as_many_as_asked_for(self):
        for most in (1, 2, 3, 4, 5, 7, 50, 999999999):
            session = scene()
            client = session.attach(20, 6)
            whole = session.pull(session.attach(20, 6), 999999999)
            data = []
            while len(data) < len(whole):
                piece = session.pull(client, most)
                self.assertEqual(len(piece), min(most, len(whole) - len(data)))
                self.assertIs(type(piece), list)
                data += piece
            self.assertEqual(data, whole)
            self.assertEqual(session.pull(client, most), [])

    def test_in_the_same_call(self):
        session = scene()
        client = session.attach(20, 6)
        terminal = Terminal(20, 6)
        data = session.pull(client, 4)
        self.assertEqual((len(data), data[:3]), (4, RENEWING))
        terminal.feed(data)
        self.serve(session, client, terminal)
        session.write(1, coded("a"))
        terminal.feed(session.pull(client, 3))
        session.write(1, coded("b"))
        # The rest of the bytes for the first change and those for the second one.
        terminal.feed(session.pull(client, 999999999))
        self.check(session, client, terminal)
        self.assertEqual(session.pull(client, 9), [])

    def test_nothing_has_changed(self):
        session = scene()
        client = session.attach(20, 6)
        pulled(session, client)
        for most in (1, 2, 999999999):
            self.assertEqual(session.pull(client, most), [])
        session.press([97])
        session.taken(2)
        session.write(2, coded(CSI + "7m"))
        session.back(1, 5)
        session.focus(2)
        self.assertEqual(session.pull(client, 1), [])

    def test_something_changed_and_changed_back(self):
        session = scene()
        client = session.attach(20, 6)
        pulled(session, client)
        session.zoom()
        session.zoom()
        self.assertEqual(session.pull(client, 1), [])

    def test_few_changes_need_few_bytes(self):
        session = scene()
        client = session.attach(20, 6)
        terminal = Terminal(20, 6)
        self.serve(session, client, terminal)
        for text in ("x", CSI + "3;3H", CSI + "44mxy", SET + "25l", WIDE, SET + "25h", CSI + "2J"):
            session.write(2, coded(text))
            changed = difference(terminal.picture(), session.seen(client))
            data = self.serve(session, client, terminal)
            self.assertTrue(0 < len(data) <= 28 + 44 * changed, text)

    def test_the_bytes_after_attaching_are_bounded(self):
        for width, height in ((2, 2), (20, 6), (130, 4)):
            session = scene()
            client = session.attach(width, height)
            fresh = Terminal(width, height)
            changed = difference(fresh.picture(), session.seen(client))
            self.assertLessEqual(len(self.serve(session, client, fresh)), 3 + 28 + 44 * changed)

    def test_the_list_may_be_changed(self):
        session = scene()
        client, other = session.attach(20, 6), session.attach(20, 6)
        data = session.pull(client, 10)
        data[:] = [0] * 99
        session.pull(client, 10).clear()
        rest = session.pull(client, 999999999)
        self.assertEqual(session.pull(other, 999999999)[20:], rest)
        self.assertEqual(session.pull(client, 1), [])


class StateTest(ClientCase):
    def test_any_state_before_attaching(self):
        for state in STATES:
            for most in (1, 2, 5, 1000):
                session = scene()
                self.serve(session, session.attach(20, 6), new(20, 6, state), most)
        for seed in range(60):
            session = scene()
            terminal = new(20, 6, "".join(drawn_text(seed, 20, 6, 20)), limit=seed % 3)
            terminal.feed(drawn_bytes(seed, 40))
            terminal.answers()
            self.serve(session, session.attach(20, 6), terminal, 1 + seed % 7)

    def test_an_unfinished_character(self):
        for start in ([195], [224], [240, 159], [240, 159, 152]):
            session = scene()
            terminal = Terminal(20, 6)
            terminal.feed(start)
            self.serve(session, session.attach(20, 6), terminal, 1)

    def test_resized_within_the_bytes(self):
        for cut in range(0, 200, 3):
            session = scene()
            client = session.attach(20, 6)
            terminal = new(20, 6, STATES[cut % len(STATES)])
            terminal.feed(session.pull(client, cut) if cut else [])
            size = [(20, 6), (11, 4), (40, 9), (2, 2)][cut % 4]
            terminal.resize(*size)
            session.refit(client, *size)
            data = self.serve(session, client, terminal, 1 + cut % 5)
            self.assertEqual(data[:3], RENEWING)

    def test_resized_to_the_same_size(self):
        session = scene()
        client = session.attach(20, 6)
        terminal = Terminal(20, 6)
        self.serve(session, client, terminal)
        session.refit(client, 20, 6)
        self.assertEqual(self.serve(session, client, terminal)[:3], RENEWING)
        session.refit(client, 20, 6)
        self.assertEqual(session.pull(client, 1), [24])
        session.refit(client, 20, 6)
        self.assertEqual([session.pull(client, 1) for _ in range(3)], [[24], [27], [99]])
        self.assertNotEqual(session.pull(client, 1), [])

    def test_bytes_that_were_not_sent_are_dropped(self):
        session = scene()
        client = session.attach(20, 6)
        session.pull(client, 20)
        session.refit(client, 20, 6)
        other = session.attach(20, 6)
        self.assertEqual(session.pull(client, 999999999), session.pull(other, 999999999))

    def test_a_change_within_the_bytes(self):
        for cut in range(1, 120, 2):
            session = scene()
            client = session.attach(20, 6)
            terminal = new(20, 6, STATES[cut % len(STATES)])
            terminal.feed(session.pull(client, cut))
            session.write(1, coded("more" + WIDE))
            terminal.feed(session.pull(client, cut))
            session.divide(1, BELOW)
            self.serve(session, client, terminal, cut)

    def test_detached_and_attached_again(self):
        session = scene()
        client = session.attach(20, 6)
        terminal = Terminal(20, 6)
        terminal.feed(session.pull(client, 30))
        session.detach(client)
        session.write(1, coded("later"))
        again = session.attach(20, 6)
        self.assertEqual(self.serve(session, again, terminal, 3)[:3], RENEWING)

    def test_after_other_clients_came_and_went(self):
        session = scene()
        client = session.attach(30, 9)
        terminal = Terminal(30, 9)
        self.serve(session, client, terminal)
        small = session.attach(7, 4)
        data = self.serve(session, client, terminal)
        self.assertNotEqual(data[:3], RENEWING)
        session.refit(small, 3, 3)
        self.serve(session, client, terminal, 1)
        session.detach(small)
        self.serve(session, client, terminal, 7)
        self.assertEqual(pulled(session, client), [])

    def test_without_a_visible_cursor(self):
        session = opened(9, 4, SET + "25l")
        terminal = Terminal(9, 4)
        client = session.attach(9, 4)
        self.serve(session, client, terminal)
        self.assertFalse(terminal.picture().visible)
        session.write(1, coded("ab" + SET + "25h"))
        self.serve(session, client, terminal)
        self.assertEqual(terminal.picture().cursor, (0, 2))


class ManyTest(ClientCase):
    def test_clients_of_different_sizes(self):
        session = scene()
        sizes = [(20, 6), (25, 8), (400, 7), (21, 200), (20, 6)]
        clients = [(session.attach(*size), Terminal(*size)) for size in sizes]
        for text in ("a", "\r\n" + WIDE * 6, CSI + "2J", "x" * 40, SET + "25l", "\x1b]0;other\x07"):
            session.write(2, coded(text))
            for most, (client, terminal) in enumerate(clients, 1):
                self.serve(session, client, terminal, most * 9)
        for client, terminal in clients:
            self.assertEqual(session.pull(client, 9), [])

    def test_clients_do_not_disturb_each_other(self):
        alone = scene()
        only = alone.attach(20, 6)
        session = scene()
        client, other = session.attach(20, 6), session.attach(20, 6)
        for text in ("", "a", "bc" + WIDE, CSI + "2J", "d"):
            alone.write(1, coded(text))
            session.write(1, coded(text))
            session.pull(other, 5)
            self.assertEqual(session.pull(client, 40), alone.pull(only, 40))
        session.refit(other, 20, 6)
        self.assertEqual(session.pull(client, 40), alone.pull(only, 40))
        session.detach(other)
        self.assertEqual(pulled(session, client), pulled(alone, only))

    def test_a_client_that_waits(self):
        session = scene()
        slow, quick = session.attach(20, 6), session.attach(20, 6)
        slow_terminal, quick_terminal = Terminal(20, 6), Terminal(20, 6)
        source = random.Random(3)
        for step in range(60):
            session.write(source.choice((1, 2)), coded("".join(drawn_text(step, 9, 5, 3))))
            self.serve(session, quick, quick_terminal)
            slow_terminal.feed(session.pull(slow, source.randrange(1, 60)))
        self.serve(session, slow, slow_terminal, 11)


if __name__ == "__main__":
    unittest.main()
