"""A second reading of points 39 to 46, word by word, to compare layouts with.

A layout is a tree of nodes that are changed in place; each node knows the one
around it and its size in that one's direction.
"""

from fractions import Fraction
from math import floor


class Node:
    def __init__(self, pane=None, direction=None):
        self.pane = pane
        self.direction = direction
        self.parts = []
        self.size = None
        self.around = None

    def put(self, at, part, size):
        part.around = self
        part.size = size
        self.parts.insert(at, part)


def grown(layout):
    """Returns the tree of a layout."""
    if isinstance(layout, int):
        return Node(pane=layout)
    node = Node(direction=layout[0])
    for part, size in layout[1]:
        node.put(len(node.parts), grown(part), size)
    return node


def told(node):
    """Returns the layout of a tree."""
    if node.pane is not None:
        return node.pane
    return (node.direction, tuple((told(part), part.size) for part in node.parts))


def leaves(node):
    if node.pane is not None:
        return [node]
    return [leaf for part in node.parts for leaf in leaves(part)]


def leaf_of(node, pane):
    return next(leaf for leaf in leaves(node) if leaf.pane == pane)


def model_least(node, direction):
    """Returns the least size in a direction."""
    if node.pane is not None:
        return {"beside": 2, "below": 1}[direction]
    sizes = [model_least(part, direction) for part in node.parts]
    if node.direction == direction:
        return sum(sizes) + len(sizes) - 1
    return max(sizes)


def model_share(total, smallest, sizes):
    spare = total - (len(smallest) - 1)
    for low in smallest:
        spare -= low
    if spare < 0:
        spare = 0
    extra = [size - low if size > low else 0 for low, size in zip(smallest, sizes)]
    if not any(extra):
        extra = [1] * len(extra)
    parts = [floor(Fraction(spare * more, sum(extra))) for more in extra]
    left = spare - sum(parts)
    for at in [at for at, more in enumerate(extra) if more][:left]:
        parts[at] += 1
    return [low + part for low, part in zip(smallest, parts)]


def fit(node, width, height):
    width = max(width, model_least(node, "beside"))
    height = max(height, model_least(node, "below"))
    if node.pane is not None:
        return
    total = {"beside": width, "below": height}[node.direction]
    smallest = [model_least(part, node.direction) for part in node.parts]
    sizes = model_share(total, smallest, [part.size for part in node.parts])
    for part, size in zip(node.parts, sizes):
        part.size = size
        if node.direction == "beside":
            fit(part, size, height)
        else:
            fit(part, width, size)


def cover(node, width, height):
    """Returns the cells of a fitted tree: for each place a pane, or the point of a border."""
    width = max(width, model_least(node, "beside"))
    height = max(height, model_least(node, "below"))
    if node.pane is not None:
        return [[node.pane] * width for _ in range(height)]
    covers = [cover(part, part.size, height) if node.direction == "beside" else cover(part, width, part.size)
              for part in node.parts]
    if node.direction == "below":
        rows = covers[0]
        for other in covers[1:]:
            rows = rows + [["-"] * width] + other
        return rows
    rows = [[] for _ in range(height)]
    for at, other in enumerate(covers):
        for row, cells in zip(rows, other):
            row.extend((["|"] if at else []) + cells)
    return rows


def model_boxes(layout, width, height):
    node = grown(layout)
    fit(node, width, height)
    return boxes_of_cover(node, cover(node, width, height))


def boxes_of_cover(node, rows):
    """Returns the boxes in the order of a tree, read off the cells that it covers."""
    found = []
    for leaf in leaves(node):
        places = [(at, column) for at, row in enumerate(rows) for column, cell in enumerate(row) if cell == leaf.pane]
        (top, left), (bottom, right) = places[0], places[-1]
        assert len(places) == (bottom - top + 1) * (right - left + 1)
        found.append((leaf.pane, top, left, right - left + 1, bottom - top + 1))
    return found


def model_divided(layout, width, height, pane, direction, new):
    """Returns the layout after splitting, or None where there is no room."""
    node = grown(layout)
    fit(node, width, height)
    box = next(box for box in boxes_of_cover(node, cover(node, width, height)) if box[0] == pane)
    size = box[3] if direction == "beside" else box[4]
    if size < (5 if direction == "beside" else 3):
        return None
    leaf = leaf_of(node, pane)
    second = (size - 1) // 2
    around = leaf.around
    if around is not None and around.direction == direction:
        leaf.size = size - 1 - second
        around.put(around.parts.index(leaf) + 1, Node(pane=new), second)
        return told(node)
    leaf.pane = None
    leaf.direction = direction
    leaf.put(0, Node(pane=pane), size - 1 - second)
    leaf.put(1, Node(pane=new), second)
    return told(node)


def model_without(layout, width, height, pane):
    node = grown(layout)
    fit(node, width, height)
    leaf = leaf_of(node, pane)
    around = leaf.around
    at = around.parts.index(leaf)
    around.parts[at - 1 if at else 1].size += leaf.size + 1
    del around.parts[at]
    if len(around.parts) == 1:
        node = collapsed(node, around, around.parts[0])
    fit(node, width, height)
    return told(node)


def collapsed(root, whole, rest):
    """Puts the part that remains in the place of the whole; returns the root."""
    outer = whole.around
    if outer is None:
        rest.around = None
        rest.size = None
        return rest
    at = outer.parts.index(whole)
    del outer.parts[at]
    if rest.direction is not None and rest.direction == outer.direction:
        for more, part in enumerate(rest.parts):
            outer.put(at + more, part, part.size)
    else:
        outer.put(at, rest, whole.size)
    return root


def model_moved(layout, width, height, pane, direction, amount):
    node = grown(layout)
    fit(node, width, height)
    part = leaf_of(node, pane)
    while part.around is not None:
        around = part.around
        if around.direction == direction and around.parts[-1] is not part:
            other = around.parts[around.parts.index(part) + 1]
            shrinking = part.size - model_least(part, direction)
            growing = other.size - model_least(other, direction)
            amount = sorted([-shrinking, amount, growing])[1]
            part.size += amount
            other.size -= amount
            break
        part = around
    fit(node, width, height)
    return told(node)
