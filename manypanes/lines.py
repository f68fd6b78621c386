"""Lines: the rows that belong together, their texts, and how these are laid anew."""

from manypanes.cells import BLANK, GAP, RIGHT_HALF, is_wide
from manypanes.rows import Row


def lines_of(rows):
    """Returns the lines of rows, each a list of rows."""
    lines = []
    line = []
    for row in rows:
        line.append(row)
        if not row.continued:
            lines.append(line)
            line = []
    if line:
        lines.append(line)
    return lines


def without_gaps(rows):
    """Returns the cells of rows, without gaps."""
    return [cell for row in rows for cell in row.cells if cell != GAP]


def text_of(line):
    """Returns the cells of a line's text: without gaps, and without blanks at the end."""
    cells = without_gaps(line)
    many = len(cells)
    while many > 0 and cells[many - 1] == BLANK:
        many -= 1
    return cells[:many]


def logical_text(rows):
    """Returns the texts of rows, each a list of points, without empty ones at the end."""
    texts = [[cell[0] for cell in text_of(line) if cell[0] != RIGHT_HALF] for line in lines_of(rows)]
    while texts and not texts[-1]:
        texts.pop()
    return texts


def place_of(lines, row, column):
    """Returns the line of a mark, and how many cells of the line stand before the mark."""
    at = 0
    while row >= len(lines[at]):
        row -= len(lines[at])
        at += 1
    line = lines[at]
    before = without_gaps(line[:row]) + line[row].cells[:column]
    return (at, len(before))


def pieces_of(cells, width):
    """Divides the cells of a text among rows of a width; there is at least one piece."""
    pieces = []
    piece = []
    for cell in cells:
        room = width - len(piece)
        if room == 0 or (room == 1 and is_wide(cell[0])):
            pieces.append(piece)
            piece = []
        piece.append(cell)
    pieces.append(piece)
    return pieces


def rows_of(pieces, width):
    """Returns the rows of a line with these pieces of text."""
    rows = []
    for piece in pieces[:-1]:
        rows.append(Row(piece + [GAP] * (width - len(piece)), True))
    last = pieces[-1]
    rows.append(Row(last + [BLANK] * (width - len(last)), False))
    return rows


def position_in(pieces, number, width):
    """Returns the row and the column of the cell with a number, or of the place behind the last cell."""
    for at, piece in enumerate(pieces):
        if number < len(piece):
            return (at, number)
        number -= len(piece)
    return (len(pieces) - 1, min(len(pieces[-1]), width - 1))


def relaid(rows, width, mark):
    """Lays rows anew in a width; returns the new rows, and the row and the column of the mark in them."""
    lines = lines_of(rows)
    at, number = place_of(lines, mark[0], mark[1])
    texts = [text_of(line) for line in lines]
    texts[at] = texts[at] + [BLANK] * (number - len(texts[at]))
    while len(texts) > at + 1 and not texts[-1]:
        texts.pop()
    fresh = []
    for index, cells in enumerate(texts):
        pieces = pieces_of(cells, width)
        if index == at:
            row, column = position_in(pieces, number, width)
            mark = (len(fresh) + row, column)
        fresh.extend(rows_of(pieces, width))
    return (fresh, mark)
