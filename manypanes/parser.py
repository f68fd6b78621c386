"""The parser: it turns the bytes that a terminal reads into actions."""

from manypanes.cells import is_point

GROUND = 0
ESCAPE = 1
INTERMEDIATE = 2
SEQUENCE = 3
STRING = 4
STRING_END = 5

REPLACEMENT = 65533
LARGEST_NUMBER = 9999
MOST_NUMBERS = 16
LONGEST_STRING = 256
LONGEST_TITLE = 64


class Parser:
    """Turns bytes into actions, in whatever pieces the bytes come."""

    def __init__(self):
        self._state = GROUND
        # The unfinished character: the further bytes that it lacks (0 if
        # there is none), its number so far, and the least number that its
        # count of bytes may have.
        self._lacking = 0
        self._character = 0
        self._least = 0
        # The sequence: its numbers that have ended, and the current one.
        self._first = True
        self._valid = True
        self._private = 0
        self._ended = []
        self._current = 0
        self._titled = False
        self._kept = []

    def take(self, data):
        """Reads a byte list and returns the list of its actions."""
        actions = []
        for byte in data:
            if self._lacking > 0 and not 128 <= byte <= 191:
                self._lacking = 0
                actions.append(("print", REPLACEMENT))
            action = self._read(byte)
            if action is not None:
                actions.append(action)
        return actions

    def resting(self):
        """Tells whether the parser is in ground without an unfinished character."""
        return self._state == GROUND and self._lacking == 0

    def _read(self, byte):
        """Reads one byte and returns its action, or None."""
        if byte == 24 or byte == 26:
            self._state = GROUND
            return None
        if self._state == STRING:
            return self._read_in_string(byte)
        if self._state == STRING_END:
            if byte == 92:
                return self._end_string()
            self._state = ESCAPE
        if byte == 27:
            self._state = ESCAPE
            return None
        if byte < 32:
            return ("control", byte)
        if byte == 127:
            return None
        if byte > 127:
            self._state = GROUND
            return self._read_of_character(byte)
        return self._read_plain(byte)

    def _read_plain(self, byte):
        """Reads a byte from 32 to 126 outside of strings."""
        if self._state == ESCAPE:
            return self._read_in_escape(byte)
        if self._state == SEQUENCE:
            return self._read_in_sequence(byte)
        if self._state == INTERMEDIATE:
            if byte > 47:
                self._state = GROUND
            return None
        return ("print", byte)

    def _read_of_character(self, byte):
        """Reads a byte from 128 on in ground."""
        if byte < 192:
            return self._read_further(byte)
        if byte < 224:
            self._begin_character(byte - 192, 1, 128)
        elif byte < 240:
            self._begin_character(byte - 224, 2, 2048)
        elif byte < 248:
            self._begin_character(byte - 240, 3, 65536)
        else:
            return ("print", REPLACEMENT)
        return None

    def _begin_character(self, bits, lacking, least):
        self._character = bits
        self._lacking = lacking
        self._least = least

    def _read_further(self, byte):
        """Reads a byte from 128 to 191 in ground."""
        if self._lacking == 0:
            return ("print", REPLACEMENT)
        self._character = self._character * 64 + byte - 128
        self._lacking -= 1
        if self._lacking > 0:
            return None
        if self._character < self._least or not is_point(self._character):
            return ("print", REPLACEMENT)
        return ("print", self._character)

    def _read_in_escape(self, byte):
        """Reads a byte from 32 to 126 in escape."""
        if byte < 48:
            self._state = INTERMEDIATE
            return None
        if byte == 91:
            self._begin_sequence()
            return None
        if byte in (80, 88, 93, 94, 95):
            self._begin_string(byte == 93)
            return None
        self._state = GROUND
        return ("escape", byte)

    def _begin_sequence(self):
        self._state = SEQUENCE
        self._first = True
        self._valid = True
        self._private = 0
        self._ended = []
        self._current = 0

    def _read_in_sequence(self, byte):
        """Reads a byte from 32 to 126 in sequence."""
        if byte > 63:
            return self._end_sequence(byte)
        if 48 <= byte <= 57:
            self._current = min(self._current * 10 + byte - 48, LARGEST_NUMBER)
        elif byte == 59:
            self._end_number()
        elif byte > 59 and self._first:
            self._private = byte
        else:
            self._valid = False
        self._first = False
        return None

    def _end_number(self):
        if len(self._ended) < MOST_NUMBERS:
            self._ended.append(self._current)
        self._current = 0

    def _end_sequence(self, byte):
        self._state = GROUND
        if not self._valid:
            return None
        self._end_number()
        return ("sequence", self._private, tuple(self._ended), byte)

    def _begin_string(self, titled):
        self._state = STRING
        self._titled = titled
        self._kept = []

    def _read_in_string(self, byte):
        """Reads a byte other than 24 and 26 in string."""
        if byte == 7:
            return self._end_string()
        if byte == 27:
            self._state = STRING_END
        elif len(self._kept) < LONGEST_STRING:
            self._kept.append(byte)
        return None

    def _end_string(self):
        """Ends the string and returns its action, or None."""
        self._state = GROUND
        start = tuple(self._kept[:2])
        if not self._titled or start not in ((48, 59), (50, 59)):
            return None
        shown = [byte for byte in self._kept[2:] if 32 <= byte <= 126]
        return ("title", tuple(shown[:LONGEST_TITLE]))
