"""Layouts: how panes share an area, beside each other and below each other."""

from manypanes.errors import NoRoom

BESIDE = "beside"

LEAST_WIDTH = 2
LEAST_HEIGHT = 1

# The least sizes that can be divided into two panes and a border.
LEAST_WIDTH_DIVIDED = 5
LEAST_HEIGHT_DIVIDED = 3

# The points of the borders.
UPRIGHT = 124
LEVEL = 45


def least(layout):
    """Returns the tuple of the least width and the least height."""
    if isinstance(layout, int):
        return (LEAST_WIDTH, LEAST_HEIGHT)
    direction, parts = layout
    widths = []
    heights = []
    for part, _ in parts:
        width, height = least(part)
        widths.append(width)
        heights.append(height)
    between = len(parts) - 1
    if direction == BESIDE:
        return (sum(widths) + between, max(heights))
    return (max(widths), sum(heights) + between)


def share(total, smallest, sizes):
    """Returns the list of the sizes among which a total is shared."""
    between = len(smallest) - 1
    spare = max(0, total - between - sum(smallest))
    extras = [max(0, size - low) for low, size in zip(smallest, sizes)]
    if sum(extras) == 0:
        extras = [1 for _ in extras]
    whole = sum(extras)
    shared = [low + spare * extra // whole for low, extra in zip(smallest, extras)]
    left = spare + sum(smallest) - sum(shared)
    for at, extra in enumerate(extras):
        if extra > 0 and left > 0:
            shared[at] += 1
            left -= 1
    return shared


def fitted(layout, width, height):
    """Returns the layout fitted to a width and a height."""
    if isinstance(layout, int):
        return layout
    direction, parts = layout
    width, height = enough(layout, width, height)
    smallest = [least_along(direction, part) for part, _ in parts]
    sizes = share(along(direction, width, height), smallest, [size for _, size in parts])
    fresh = []
    for (part, _), size in zip(parts, sizes):
        part_width, part_height = size_of_part(direction, size, width, height)
        fresh.append((fitted(part, part_width, part_height), size))
    return (direction, tuple(fresh))


def boxes(layout, width, height):
    """Returns the list of the boxes of the layout fitted to these sizes."""
    full_width, full_height = enough(layout, width, height)
    return boxes_at(fitted(layout, width, height), 0, 0, full_width, full_height)


def borders(layout, width, height):
    """Returns the list of the borders of the layout fitted to these sizes.

    A border is a tuple `(point, row, column, width, height)`.
    """
    full_width, full_height = enough(layout, width, height)
    return borders_at(fitted(layout, width, height), 0, 0, full_width, full_height)


def divided(layout, width, height, pane, direction, new):
    """Returns the layout after splitting a pane; the new pane stands behind it."""
    size = size_of_pane(layout, width, height, pane, direction)
    if size < along(direction, LEAST_WIDTH_DIVIDED, LEAST_HEIGHT_DIVIDED):
        raise NoRoom(f"pane {pane} has no room for another pane {direction} it")
    fresh = (size - 1) // 2
    pair = ((pane, size - 1 - fresh), (new, fresh))
    return replaced(fitted(layout, width, height), direction, pair)


def without(layout, width, height, pane):
    """Returns the layout after removing a pane."""
    return fitted(removed(fitted(layout, width, height), pane), width, height)


def moved(layout, width, height, pane, direction, amount):
    """Returns the layout after moving the border of a pane."""
    layout = fitted(layout, width, height)
    path = path_to_border(layout, pane, direction)
    if path is None:
        return layout
    return fitted(shifted(layout, path, amount), width, height)


def panes(layout):
    """Returns the list of the panes in order."""
    if isinstance(layout, int):
        return [layout]
    found = []
    for part, _ in layout[1]:
        found.extend(panes(part))
    return found


def along(direction, width, height):
    """Returns the size in a direction."""
    if direction == BESIDE:
        return width
    return height


def least_along(direction, layout):
    """Returns the least size of a layout in a direction."""
    width, height = least(layout)
    return along(direction, width, height)


def enough(layout, width, height):
    """Returns the sizes, or the least ones of the layout where these are larger."""
    least_width, least_height = least(layout)
    return (max(width, least_width), max(height, least_height))


def size_of_part(direction, size, width, height):
    """Returns the width and the height of a part of a whole with these sizes."""
    if direction == BESIDE:
        return (size, height)
    return (width, size)


def size_of_pane(layout, width, height, pane, direction):
    """Returns the size of a pane in a direction."""
    sizes = [along(direction, box[3], box[4]) for box in boxes(layout, width, height) if box[0] == pane]
    return sizes[0]


def placed_parts(layout, row, column, width, height):
    """Returns the parts of a fitted layout, each with its row, column, width and height."""
    direction, parts = layout
    found = []
    for part, size in parts:
        part_width, part_height = size_of_part(direction, size, width, height)
        found.append((part, row, column, part_width, part_height))
        if direction == BESIDE:
            column += size + 1
        else:
            row += size + 1
    return found


def boxes_at(layout, row, column, width, height):
    """Returns the boxes of a fitted layout that lies at a place."""
    if isinstance(layout, int):
        return [(layout, row, column, width, height)]
    found = []
    for part, top, left, part_width, part_height in placed_parts(layout, row, column, width, height):
        found.extend(boxes_at(part, top, left, part_width, part_height))
    return found


def borders_at(layout, row, column, width, height):
    """Returns the borders of a fitted layout that lies at a place."""
    if isinstance(layout, int):
        return []
    found = []
    for part, top, left, part_width, part_height in placed_parts(layout, row, column, width, height):
        if left > column:
            found.append((UPRIGHT, top, left - 1, 1, height))
        elif top > row:
            found.append((LEVEL, top - 1, left, width, 1))
        found.extend(borders_at(part, top, left, part_width, part_height))
    return found


def replaced(layout, direction, pair):
    """Returns the layout after putting two parts in the place of the pane that is the first of them."""
    pane = pair[0][0]
    if isinstance(layout, int):
        if layout == pane:
            return (direction, pair)
        return layout
    around, parts = layout
    fresh = []
    for part, size in parts:
        if part == pane and around == direction:
            fresh.extend(pair)
        else:
            fresh.append((replaced(part, direction, pair), size))
    return (around, tuple(fresh))


def removed(layout, pane):
    """Returns the layout, not fitted, after removing a pane."""
    if isinstance(layout, int):
        return layout
    direction, parts = layout
    kept = kept_parts(parts, pane)
    if len(kept) == 1:
        return kept[0][0]
    fresh = []
    for part, size in kept:
        left = removed(part, pane)
        if not isinstance(left, int) and left[0] == direction:
            fresh.extend(left[1])
        else:
            fresh.append((left, size))
    return (direction, tuple(fresh))


def kept_parts(parts, pane):
    """Returns the parts but a pane; the one before it, or else the one behind it, takes its room."""
    kept = []
    room = 0
    for part, size in parts:
        if part != pane:
            kept.append((part, size + room))
            room = 0
        elif kept:
            before, size_before = kept.pop()
            kept.append((before, size_before + size + 1))
        else:
            room = size + 1
    return kept


def path_to_border(layout, pane, direction):
    """Returns the numbers of the parts that lead to the one whose border is moved, or None."""
    if isinstance(layout, int):
        return None
    around, parts = layout
    for at, (part, _) in enumerate(parts):
        if pane in panes(part):
            path = path_to_border(part, pane, direction)
            if path is not None:
                return [at] + path
            if around == direction and at < len(parts) - 1:
                return [at]
    return None


def shifted(layout, path, amount):
    """Returns the layout, not fitted, after moving the border behind the part to which a path leads."""
    direction, parts = layout
    at = path[0]
    part, size = parts[at]
    fresh = list(parts)
    if len(path) > 1:
        fresh[at] = (shifted(part, path[1:], amount), size)
        return (direction, tuple(fresh))
    following, size_following = parts[at + 1]
    amount = min(amount, size_following - least_along(direction, following))
    amount = max(amount, least_along(direction, part) - size)
    fresh[at] = (part, size + amount)
    fresh[at + 1] = (following, size_following - amount)
    return (direction, tuple(fresh))
