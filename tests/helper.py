"""What several tests need: many boards, and the document's words written a second time.

Nothing here asks the program what is near, joined or turned over, so that a
fault of the program can't hide behind itself.
"""

import itertools

HANDS = ("n", "w")
STEPS = ((-1, 0), (-1, 1), (0, 1), (1, 0), (1, -1), (0, -1))

# The north hand's stones go down, along, up again, along and down.
CLIMBING = [
    "nwwwwwwww",
    "nwwwnnnnn",
    "nwwwnwwwn",
    "nwwwnwwwn",
    "nwwwnwwwn",
    "nnnnnwwwn",
    "wwwwwwwwn",
]

# The north hand's stones go to and fro over the whole board.
SNAKE = [
    "nwwwwwwww",
    "nnnnnnnnn",
    "wwwwwwwwn",
    "nnnnnnnnn",
    "nwwwwwwww",
    "nnnnnnnnn",
    "wwwwwwwwn",
    "nnnnnnnnn",
    "nwwwwwwww",
]


def all_rows(height, width, signs):
    """Each way to put the signs on so many cells, as lists of rows."""
    for marks in itertools.product(signs, repeat=height * width):
        text = "".join(marks)
        yield [text[r * width:(r + 1) * width] for r in range(height)]


def mixed_rows(count, signs, seed):
    """Lists of rows of all sizes, with signs drawn by a fixed rule."""
    state = seed
    for number in range(count):
        height = 1 + number % 9
        width = 1 + number // 9 % 9
        rows = []
        for _ in range(height):
            row = ""
            for _ in range(width):
                state = (state * 6364136223846793005 + 1442695040888963407) % 2 ** 64
                row += signs[(state >> 33) % len(signs)]
            rows.append(row)
        yield rows


def cells_of(rows):
    return [(r, c) for r in range(len(rows)) for c in range(len(rows[0]))]


def exchanged(rows):
    """The rows turned over, by the words of point 11."""
    other = {"n": "w", "w": "n", ".": "."}
    return ["".join(other[row[c]] for row in rows) for c in range(len(rows[0]))]


def with_stone(rows, r, c, hand):
    changed = [list(row) for row in rows]
    changed[r][c] = hand
    return ["".join(row) for row in changed]


def is_joined(rows, hand):
    """Whether the hand has a road: stones get the least number of their group until none changes."""
    stones = [cell for cell in cells_of(rows) if rows[cell[0]][cell[1]] == hand]
    group = {cell: number for number, cell in enumerate(stones)}
    changed = True
    while changed:
        changed = False
        for r, c in stones:
            for down, right in STEPS:
                beside = group.get((r + down, c + right))
                if beside is not None and beside < group[(r, c)]:
                    group[(r, c)] = beside
                    changed = True
    axis = 0 if hand == "n" else 1
    last = (len(rows) if hand == "n" else len(rows[0])) - 1
    first_groups = {group[cell] for cell in stones if cell[axis] == 0}
    last_groups = {group[cell] for cell in stones if cell[axis] == last}
    return bool(first_groups & last_groups)


def fault_of_road(rows, hand, cells):
    """What point 4 would say against this road, or None."""
    if not isinstance(cells, list) or not cells:
        return "a road is a list with a cell in it"
    for cell in cells:
        if not isinstance(cell, tuple) or len(cell) != 2:
            return f"{cell!r} is no pair of numbers"
        if cell not in cells_of(rows):
            return f"{cell!r} is no cell"
        if rows[cell[0]][cell[1]] != hand:
            return f"{cell!r} has no stone of {hand}"
    if len(set(cells)) != len(cells):
        return "a cell comes twice"
    for one, following in zip(cells, cells[1:]):
        if (following[0] - one[0], following[1] - one[1]) not in STEPS:
            return f"{following!r} is not near {one!r}"
    axis = 0 if hand == "n" else 1
    last = (len(rows) if hand == "n" else len(rows[0])) - 1
    if cells[0][axis] != 0:
        return "it doesn't begin on the first shore"
    if cells[-1][axis] != last:
        return "it doesn't end on the other shore"
    return None
