"""Boards of six-sided cells: how one is told, and what lies where on it."""

from shoreways.errors import BadBoard, NoCell, NotFull

NORTH = "n"
WEST = "w"
EMPTY = "."

MOST = 9

# It serves as the list of all signs, too, so that the two can't come to differ.
EXCHANGED = {"n": "w", "w": "n", ".": "."}


def check_row(row, width):
    if not 1 <= len(row) <= MOST:
        raise BadBoard("a row has 1 to 9 cells")
    if len(row) != width:
        raise BadBoard("all rows are as long as the first one")
    for mark in row:
        if mark not in EXCHANGED:
            raise BadBoard("a cell has one of the signs n, w and .")


def check_rows(rows):
    if not 1 <= len(rows) <= MOST:
        raise BadBoard("a board has 1 to 9 rows")
    for row in rows:
        check_row(row, len(rows[0]))


class Board:
    def __init__(self, rows):
        check_rows(rows)
        self.rows = list(rows)
        self.height = len(rows)
        self.width = len(rows[0])


def near(r, c):
    return [(r - 1, c), (r - 1, c + 1), (r, c + 1), (r + 1, c), (r + 1, c - 1), (r, c - 1)]


def has_cell(board, r, c):
    return 0 <= r < board.height and 0 <= c < board.width


def check_cell(board, r, c):
    if not has_cell(board, r, c):
        # The numbers are left out: Python refuses to write very great ones as a text.
        raise NoCell("the board has no such cell")


def sign(board, r, c):
    check_cell(board, r, c)
    return board.rows[r][c]


def laid(board, r, c, hand):
    check_cell(board, r, c)
    rows = list(board.rows)
    rows[r] = rows[r][:c] + hand + rows[r][c + 1:]
    return Board(rows)


def other_hand(hand):
    return EXCHANGED[hand]


def turned_column(board, c):
    return "".join([EXCHANGED[row[c]] for row in board.rows])


def turned_over(board):
    return Board([turned_column(board, c) for c in range(board.width)])


def empty(board):
    found = []
    for r, row in enumerate(board.rows):
        for c, mark in enumerate(row):
            if mark == EMPTY:
                found.append((r, c))
    return found


def check_full(board):
    if len(empty(board)) > 0:
        raise NotFull("a cell of the board is empty")
