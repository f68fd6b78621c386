"""A second reading of points 18 to 36, slow and word by word, to compare terminals with.

A cell is a list [point, style, mate]. The two cells of a wide character hold
the same object as their mate, so that a half whose mate has gone is found
after the event; a terminal itself parts the halves before.
"""

from manypanes.parser import Parser

PLAIN = (-1, -1, 0)
WIDE = [(4352, 4447), (11904, 42191), (44032, 55203), (63744, 64255), (65280, 65376),
        (127744, 129791), (131072, 262141)]


def wide(point):
    return any(first <= point <= last for first, last in WIDE)


def blank():
    return [32, PLAIN, None]


def is_blank(cell):
    return cell[0] == 32 and cell[1] == PLAIN


class ModelRow:
    def __init__(self, width):
        self.cells = [blank() for _ in range(width)]
        self.continued = False

    def change(self, cells, changed):
        """Takes new cells, of which those in the columns `changed` count as changed."""
        healed = []
        for column, cell in enumerate(cells):
            beside = cells[column + 1:column + 2] if cell[0] != 0 else cells[max(column - 1, 0):column]
            moved = any(old is cell and place != column for place, old in enumerate(self.cells))
            if cell[2] is not None and not any(other[2] is cell[2] for other in beside):
                cell = [32, cell[1], None]
            if cell[0] == -1 and moved:
                cell = blank()
            healed.append(cell)
        if len(cells) - 1 in changed:
            self.continued = False
        self.cells = healed

    def told(self):
        return (tuple((cell[0], cell[1]) for cell in self.cells), self.continued)


class Model:
    def __init__(self, width, height, limit):
        self.parser = Parser()
        self.said = []
        self.limit = limit
        self.width = width
        self.height = height
        self.renew()

    def renew(self):
        self.shown = 0
        self.screens = [[ModelRow(self.width) for _ in range(self.height)] for _ in range(2)]
        self.history = []
        self.row, self.column, self.waits = 0, 0, False
        self.style = PLAIN
        self.region = (0, self.height - 1)
        self.modes = {"wrap": True, "origin": False, "insert": False, "visible": True}
        self.tabs = {column for column in range(self.width) if column % 8 == 0 and column != 0}
        self.saved = [None, None]
        self.title = ()

    # What a terminal tells.

    def state(self):
        return (
            self.width, self.height, self.shown,
            tuple(row.told() for row in self.screens[0]),
            tuple(row.told() for row in self.screens[1]),
            tuple(row.told() for row in self.history),
            (self.row, self.column, self.waits), self.style, self.region,
            tuple(self.modes[name] for name in ("wrap", "origin", "insert", "visible")),
            tuple(sorted(self.tabs)), tuple(self.saved), self.title,
        )

    def answers(self):
        said, self.said = self.said, []
        return said

    def picture_rows(self):
        return [[(32, PLAIN) if cell[0] == -1 else (cell[0], cell[1]) for cell in row.cells]
                for row in self.screens[self.shown]]

    def text(self):
        texts = [[cell[0] for cell in text if cell[0] != 0] for text in map(self.text_of, self.lines())]
        while texts and texts[-1] == []:
            del texts[-1]
        return texts

    # Reading.

    def feed(self, data):
        for action in self.parser.take(data):
            if action[0] == "print":
                self.put(action[1])
            elif action[0] == "control":
                self.control(action[1])
            elif action[0] == "escape":
                self.escape(action[1])
            elif action[0] == "title":
                self.title = action[1]
            elif action[1] == 0:
                self.sequence(action[2], action[3])
            elif action[1] == 63 and action[3] in (104, 108):
                self.private(action[2][0], action[3] == 104)

    def current(self):
        return self.screens[self.shown][self.row]

    def above(self, row):
        """Returns the row above a row as a list of at most one."""
        if row > 0:
            return [self.screens[self.shown][row - 1]]
        return self.history[-1:] if self.shown == 0 else []

    def advance(self):
        self.waits = False
        if self.row == self.region[1]:
            self.scroll_up(*self.region, 1, True)
            return True
        if self.row < self.height - 1:
            self.row += 1
            return True
        return False

    def wrap(self):
        self.column = 0
        if self.advance():
            for row in self.above(self.row):
                row.continued = True

    def put(self, point):
        size = 2 if wide(point) else 1
        if self.waits:
            self.wrap()
        if size == 2 and self.column == self.width - 1:
            if self.modes["wrap"]:
                row = self.current()
                row.change(row.cells[:-1] + [[-1, PLAIN, None]], {self.width - 1})
                self.wrap()
            else:
                self.column -= 1
                self.waits = False
        row = self.current()
        if self.modes["insert"]:
            self.insert(size)
        mate = [] if size == 2 else None
        fresh = [[point, self.style, mate], [0, self.style, mate]][:size]
        cells = row.cells[:self.column] + fresh + row.cells[self.column + size:]
        row.change(cells, set(range(self.column, self.column + size)))
        self.column += size
        if self.column == self.width:
            self.column = self.width - 1
            if self.modes["wrap"]:
                self.waits = True

    def insert(self, many):
        row = self.current()
        cells = row.cells[:self.column] + [blank() for _ in range(many)] + row.cells[self.column:]
        row.change(cells[:self.width], set(range(self.column, self.width)))

    def remove(self, many):
        row = self.current()
        cells = row.cells[:self.column] + row.cells[self.column + many:]
        cells += [blank() for _ in range(self.width - len(cells))]
        row.change(cells, set(range(self.column, self.width)))

    def erase(self, row, columns):
        cells = [blank() if column in columns else cell for column, cell in enumerate(row.cells)]
        row.change(cells, set(columns))

    def scroll_up(self, first, last, many, region):
        rows = self.screens[self.shown]
        rows[last].continued = False
        gone = []
        for _ in range(min(many, last - first + 1)):
            gone.append(rows.pop(first))
            rows.insert(last, ModelRow(self.width))
        if first == 0 and self.shown == 0 and region:
            self.history += gone
            while len(self.history) > self.limit:
                self.history.pop(0)
        else:
            for row in self.above(first):
                row.continued = False

    def scroll_down(self, first, last, many):
        rows = self.screens[self.shown]
        for row in self.above(first):
            row.continued = False
        for _ in range(min(many, last - first + 1)):
            rows.pop(last)
            rows.insert(first, ModelRow(self.width))
        rows[last].continued = False

    # Controls, escapes and sequences.

    def move(self, row, column):
        self.row = row
        self.column = column
        self.waits = False

    def control(self, byte):
        if byte == 8:
            self.move(self.row, max(self.column - 1, 0))
        if byte == 9:
            self.tab()
        if byte in (10, 11, 12):
            self.advance()
        if byte == 13:
            self.move(self.row, 0)

    def tab(self):
        self.move(self.row, min([tab for tab in self.tabs if tab > self.column], default=self.width - 1))

    def save(self):
        self.saved[self.shown] = (self.row, self.column, self.waits, self.style, self.modes["origin"])

    def restore(self):
        saved = self.saved[self.shown] or (0, 0, False, PLAIN, False)
        self.row, self.column, self.waits, self.style, self.modes["origin"] = saved

    def escape(self, byte):
        if byte == 55:
            self.save()
        if byte == 56:
            self.restore()
        if byte == 68:
            self.advance()
        if byte == 69:
            self.column = 0
            self.advance()
        if byte == 72:
            self.tabs.add(self.column)
        if byte == 77:
            self.waits = False
            if self.row == self.region[0]:
                self.scroll_down(*self.region, 1)
            elif self.row > 0:
                self.row -= 1
        if byte == 99:
            self.renew()

    def home(self):
        self.move(self.region[0] if self.modes["origin"] else 0, 0)

    def private(self, number, on):
        if number == 6:
            self.modes["origin"] = on
            self.home()
        if number == 7:
            self.modes["wrap"] = on
        if number == 25:
            self.modes["visible"] = on
        if number == 1049 and on and self.shown == 0:
            self.save()
            self.shown = 1
            self.screens[1] = [ModelRow(self.width) for _ in range(self.height)]
            self.waits = False
        if number == 1049 and not on and self.shown == 1:
            self.shown = 0
            self.restore()

    def sequence(self, numbers, byte):
        p = numbers[0]
        n = p or 1
        second = numbers[1] if len(numbers) > 1 else 0
        self.move_by(byte, n, second or 1)
        self.edit(byte, n, p)
        self.set(byte, p, second, numbers)
        self.answer(byte, p)

    def move_by(self, byte, n, column):
        first, last = self.region
        bottom = self.height - 1
        if byte in (65, 70):
            self.move(max(self.row - n, first if self.row >= first else 0), self.column)
        if byte in (66, 69):
            self.move(min(self.row + n, last if self.row <= last else bottom), self.column)
        if byte in (69, 70):
            self.move(self.row, 0)
        if byte == 67:
            self.move(self.row, min(self.column + n, self.width - 1))
        if byte == 68:
            self.move(self.row, max(self.column - n, 0))
        if byte == 71:
            self.move(self.row, min(n - 1, self.width - 1))
        if byte in (72, 102, 100):
            to = self.column if byte == 100 else min(column - 1, self.width - 1)
            if self.modes["origin"]:
                self.move(min(first + n - 1, last), to)
            else:
                self.move(min(n - 1, bottom), to)
        if byte == 73:
            for _ in range(n):
                self.tab()
        if byte == 90:
            for _ in range(n):
                self.move(self.row, max([tab for tab in self.tabs if tab < self.column], default=0))

    def edit(self, byte, n, p):
        first, last = self.region
        if byte == 64:
            self.insert(n)
        if byte == 80:
            self.remove(n)
        if byte == 88:
            self.erase(self.current(), range(self.column, min(self.column + n, self.width)))
        if byte in (64, 80, 88, 83, 84) or (byte == 74 and p <= 3) or (byte == 75 and p <= 2):
            self.waits = False
        if byte == 74 and p == 3:
            self.history = []
        if byte in (74, 75) and p <= 2:
            here = self.row * self.width + self.column
            for row, cells in enumerate(self.screens[self.shown]):
                places = [(row * self.width + column, column) for column in range(self.width)]
                gone = [column for place, column in places
                        if (p == 2 or (p == 0 and place >= here) or (p == 1 and place <= here))]
                if gone and (byte == 74 or row == self.row):
                    self.erase(cells, gone)
        if byte in (76, 77) and first <= self.row <= last:
            if byte == 76:
                self.scroll_down(self.row, last, n)
            else:
                self.scroll_up(self.row, last, n, False)
            self.move(self.row, 0)
        if byte == 83:
            self.scroll_up(first, last, n, True)
        if byte == 84:
            self.scroll_down(first, last, n)

    def set(self, byte, p, second, numbers):
        if byte == 103 and p == 0:
            self.tabs.discard(self.column)
        if byte == 103 and p == 3:
            self.tabs = set()
        if byte in (104, 108) and p == 4:
            self.modes["insert"] = byte == 104
        if byte == 109:
            self.style = model_style(self.style, list(numbers))
        if byte == 114:
            a, b = p or 1, second or self.height
            b = min(b, self.height)
            if a < b:
                self.region = (a - 1, b - 1)
                self.home()
        if byte == 115:
            self.save()
        if byte == 117:
            self.restore()

    def answer(self, byte, p):
        if byte == 99 and p == 0:
            self.said += list(b"\x1b[?6c")
        if byte == 110 and p == 5:
            self.said += list(b"\x1b[0n")
        if byte == 110 and p == 6:
            row = self.row + 1
            if self.modes["origin"]:
                row = max(1, row - self.region[0])
            self.said += list(b"\x1b[%d;%dR" % (row, self.column + 1))

    # Resizing.

    def lines(self):
        rows = self.history + self.screens[0]
        lines = [[]]
        for row in rows:
            lines[-1].append(row)
            if not row.continued:
                lines.append([])
        return [line for line in lines if line]

    def text_of(self, line):
        text = [cell for row in line for cell in row.cells if cell[0] != -1]
        while text and is_blank(text[-1]):
            text = text[:-1]
        return text

    def resize(self, width, height):
        if width == self.width and height == self.height:
            return
        mark = (self.row, self.column)
        if self.shown == 1:
            mark = self.saved[0][:2] if self.saved[0] else (0, 0)
        mark = self.lay(width, height, mark)
        for row in self.screens[1]:
            cells = [blank() if cell[0] == -1 and width != self.width else cell for cell in row.cells]
            row.change((cells + [blank() for _ in range(width)])[:width], set())
            row.continued = False
        self.screens[1] = (self.screens[1] + [ModelRow(width) for _ in range(height)])[:height]
        self.tabs |= {tab for tab in range(self.width, width) if tab % 8 == 0}
        self.tabs = {tab for tab in self.tabs if tab < width}
        self.region = (0, height - 1)
        self.width = width
        self.height = height
        for screen in (0, 1):
            if self.saved[screen]:
                row, column, _, style, origin = self.saved[screen]
                self.saved[screen] = (min(row, height - 1), min(column, width - 1), False, style, origin)
        self.move(min(self.row, height - 1), min(self.column, width - 1))
        if self.shown == 0:
            self.move(*mark)
        elif self.saved[0]:
            self.saved[0] = mark + self.saved[0][2:]

    def lay(self, width, height, mark):
        """Lays the lines anew and returns where the mark is on the screen then."""
        marked = self.screens[0][mark[0]]
        before = marked.cells[:mark[1]]
        lines = self.lines()
        texts = [self.text_of(line) for line in lines]
        for at, line in enumerate(lines):
            if any(row is marked for row in line):
                place = at
                rows = line[:[row is marked for row in line].index(True)]
                number = sum(cell[0] != -1 for row in rows for cell in row.cells) + len(before)
        while len(texts[place]) < number:
            texts[place].append(blank())
        while len(texts) > place + 1 and texts[-1] == []:
            texts.pop()
        target = (texts[place] + [None])[number]
        fresh = []
        for at, text in enumerate(texts):
            fresh.append(ModelRow(0))
            for cell in text:
                row = fresh[-1].cells
                if len(row) == width or (wide(cell[0]) and len(row) == width - 1):
                    row += [[-1, PLAIN, None]] * (width - len(row))
                    fresh[-1].continued = True
                    fresh.append(ModelRow(0))
                if cell is target:
                    mark = (len(fresh) - 1, len(fresh[-1].cells))
                fresh[-1].cells.append(cell)
            if at == place and target is None:
                mark = (len(fresh) - 1, min(len(fresh[-1].cells), width - 1))
            while len(fresh[-1].cells) < width:
                fresh[-1].cells.append(blank())
        gone = max(len(fresh) - height, 0)
        self.history = fresh[:gone][-self.limit:] if self.limit else []
        self.screens[0] = fresh[gone:] + [ModelRow(width) for _ in range(height - len(fresh))]
        return (mark[0] - gone, mark[1]) if mark[0] >= gone else (0, 0)


def model_style(style, numbers):
    foreground, background, marks = style
    while numbers:
        number = numbers.pop(0)
        if number == 0:
            foreground, background, marks = PLAIN
        for mark, on, off in ((1, 1, 22), (2, 4, 24), (4, 5, 25), (8, 7, 27)):
            if number == on and not marks & mark:
                marks += mark
            if number == off and marks & mark:
                marks -= mark
        if 30 <= number <= 37:
            foreground = number - 30
        if 90 <= number <= 97:
            foreground = number - 82
        if number == 39:
            foreground = -1
        if 40 <= number <= 47:
            background = number - 40
        if 100 <= number <= 107:
            background = number - 92
        if number == 49:
            background = -1
        if number in (38, 48):
            if len(numbers) < 2 or numbers[0] != 5 or numbers[1] > 255:
                return (foreground, background, marks)
            if number == 38:
                foreground = numbers[1]
            else:
                background = numbers[1]
            numbers = numbers[2:]
    return (foreground, background, marks)
