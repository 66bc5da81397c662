"""What several tests need: many boards, and the document's words written a second time.

Nothing here asks the program what is near, joined, turned over or won, so that
a fault of the program can't hide behind itself.
"""

import functools
import itertools

HANDS = ("n", "w")
OTHER = {"n": "w", "w": "n"}
STEPS = ((-1, 0), (-1, 1), (0, 1), (1, 0), (1, -1), (0, -1))

GREAT = 10 ** 40
# Python doesn't turn a number of so many digits into a text.
TOO_GREAT_TO_WRITE = 10 ** 5000

SMALL_FULL = (
    (1, 1), (1, 2), (2, 1), (1, 5), (5, 1), (2, 2), (2, 3), (3, 2), (2, 4), (4, 2), (3, 3),
    (1, 9), (9, 1), (2, 5), (5, 2), (3, 4), (4, 3),
)

# The north hand's stones go down, along, up again, along and down.
CLIMBING = [
    "nwwwwwwww",
    "nwwwnnnnn",
    "nwwwnwwwn",
    "nwwwnwwwn",
    "nwwwnwwwn",
    "nnnnnwwwn",
    "wwwwwwwwn",
]

# The north hand's stones go to and fro over the whole board.
SNAKE = [
    "nwwwwwwww",
    "nnnnnnnnn",
    "wwwwwwwwn",
    "nnnnnnnnn",
    "nwwwwwwww",
    "nnnnnnnnn",
    "wwwwwwwwn",
    "nnnnnnnnn",
    "nwwwwwwww",
]


def all_rows(height, width, signs):
    """Each way to put the signs on so many cells, as lists of rows."""
    for marks in itertools.product(signs, repeat=height * width):
        text = "".join(marks)
        yield [text[r * width:(r + 1) * width] for r in range(height)]


def drawn(seed):
    """Numbers from 0 on, drawn by a fixed rule, without end."""
    state = seed
    while True:
        state = (state * 6364136223846793005 + 1442695040888963407) % 2 ** 64
        yield state >> 33


def mixed_rows(count, signs, seed):
    """Lists of rows of all sizes, with signs drawn by a fixed rule."""
    numbers = drawn(seed)
    for number in range(count):
        height = 1 + number % 9
        width = 1 + number // 9 % 9
        yield ["".join(signs[next(numbers) % len(signs)] for _ in range(width)) for _ in range(height)]


def shuffled(things, numbers):
    """The things in an order that the drawn numbers give."""
    left = list(things)
    order = []
    while left:
        order.append(left.pop(next(numbers) % len(left)))
    return order


def no_cells(height, width):
    """Places that are no cells: one below 0, one beyond the last, and far off."""
    outside_rows = (-1, height, -height, -height - 1, 10, 100, -100, GREAT, -GREAT, TOO_GREAT_TO_WRITE)
    outside_columns = (-1, width, -width, -width - 1, 10, 100, -100, GREAT, -GREAT, -TOO_GREAT_TO_WRITE)
    places = [(r, c) for r in outside_rows for c in (0, width - 1)]
    places += [(r, c) for r in (0, height - 1) for c in outside_columns]
    places += [(-1, -1), (-1, width), (height, -1), (height, width), (GREAT, -GREAT)]
    return places


def cells_of(rows):
    return [(r, c) for r in range(len(rows)) for c in range(len(rows[0]))]


def exchanged(rows):
    """The rows turned over, by the words of point 11."""
    other = {"n": "w", "w": "n", ".": "."}
    return ["".join(other[row[c]] for row in rows) for c in range(len(rows[0]))]


def empty_cells(rows):
    return [(r, c) for r, c in cells_of(rows) if rows[r][c] == "."]


def with_stone(rows, r, c, hand):
    changed = [list(row) for row in rows]
    changed[r][c] = hand
    return ["".join(row) for row in changed]


def is_joined(rows, hand):
    """Whether the hand has a road: stones get the least number of their group until none changes."""
    stones = [cell for cell in cells_of(rows) if rows[cell[0]][cell[1]] == hand]
    group = {cell: number for number, cell in enumerate(stones)}
    changed = True
    while changed:
        changed = False
        for r, c in stones:
            for down, right in STEPS:
                beside = group.get((r + down, c + right))
                if beside is not None and beside < group[(r, c)]:
                    group[(r, c)] = beside
                    changed = True
    axis = 0 if hand == "n" else 1
    last = (len(rows) if hand == "n" else len(rows[0])) - 1
    first_groups = {group[cell] for cell in stones if cell[axis] == 0}
    last_groups = {group[cell] for cell in stones if cell[axis] == last}
    return bool(first_groups & last_groups)


def fault_of_road(rows, hand, cells):
    """What point 4 would say against this road, or None."""
    if not isinstance(cells, list) or not cells:
        return "a road is a list with a cell in it"
    for cell in cells:
        if not isinstance(cell, tuple) or len(cell) != 2:
            return f"{cell!r} is no pair of numbers"
        if cell not in cells_of(rows):
            return f"{cell!r} is no cell"
        if rows[cell[0]][cell[1]] != hand:
            return f"{cell!r} has no stone of {hand}"
    if len(set(cells)) != len(cells):
        return "a cell comes twice"
    for one, following in zip(cells, cells[1:]):
        if (following[0] - one[0], following[1] - one[1]) not in STEPS:
            return f"{following!r} is not near {one!r}"
    axis = 0 if hand == "n" else 1
    last = (len(rows) if hand == "n" else len(rows[0])) - 1
    if cells[0][axis] != 0:
        return "it doesn't begin on the first shore"
    if cells[-1][axis] != last:
        return "it doesn't end on the other shore"
    return None


def shore_places(height, width):
    """Each shore place with its hand, by the words of point 6."""
    places = {}
    for c in range(0, width + 1):
        places[(-1, c)] = "n"
    for c in range(-1, width):
        places[(height, c)] = "n"
    for r in range(0, height):
        places[(r, -1)] = "w"
        places[(r, width)] = "w"
    return places


def is_pair_of_places(pair):
    if type(pair) is not tuple or len(pair) != 2:
        return False
    return all(type(place) is tuple and [type(number) for number in place] == [int, int] for place in pair)


def fault_of_walk(rows, pairs):
    """What point 7 would say against this walk, or None."""
    hands = shore_places(len(rows), len(rows[0]))
    for r, c in cells_of(rows):
        hands[(r, c)] = rows[r][c]
    if type(pairs) is not list or not all(is_pair_of_places(pair) for pair in pairs):
        return "a walk is a list of tuples of two tuples of two whole numbers"
    if pairs[:1] != [((-1, 0), (0, -1))]:
        return "it begins with another pair"
    for pair, following in zip(pairs, pairs[1:] + [None]):
        (a, b) = pair
        if hands.get(a) != "n" or hands.get(b) != "w":
            return f"{pair!r} is not a place of the north hand and one of the west hand"
        if (a[0] - b[0], a[1] - b[1]) not in STEPS:
            return f"the places of {pair!r} are not near one another"
        down, right = STEPS[(STEPS.index((a[0] - b[0], a[1] - b[1])) + 1) % 6]
        ahead = (b[0] + down, b[1] + right)
        asked = {"n": (ahead, b), "w": (a, ahead), None: None}[hands.get(ahead)]
        if following != asked:
            return f"behind {pair!r} comes {following!r} and not {asked!r}"
    return None


def only_cells(rows, cells):
    """The rows with every cell but these emptied."""
    return ["".join(mark if (r, c) in cells else "." for c, mark in enumerate(row)) for r, row in enumerate(rows)]


def winning_cells(rows, hand):
    """The empty cells by which the hand can win, by the words of point 10."""
    return [cell for cell in empty_cells(rows) if wins_with(tuple(rows), hand, cell)]


@functools.lru_cache(maxsize=None)
def wins_with(rows, hand, cell):
    after = with_stone(rows, cell[0], cell[1], hand)
    return is_joined(after, hand) or not winning_cells(after, OTHER[hand])


def nobody_joined(rows):
    return not any(is_joined(rows, hand) for hand in HANDS)
