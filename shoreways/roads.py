"""Roads: whether a hand comes from its first shore to its other one, and how."""

from shoreways.boards import NORTH, WEST, check_full, has_cell, near


def first_shore(board, hand):
    if hand == NORTH:
        return [(0, c) for c in range(board.width)]
    return [(r, 0) for r in range(board.height)]


def on_other_shore(board, hand, cell):
    if hand == NORTH:
        return cell[0] == board.height - 1
    return cell[1] == board.width - 1


def holds(board, hand, r, c):
    return has_cell(board, r, c) and board.rows[r][c] == hand


# Each cell reached keeps the one ahead of it (None on the first shore), so that a road
# can be traced from its end; the nearest cells come first, so that it has no needless turns.
def reached(board, hand):
    waiting = [cell for cell in first_shore(board, hand) if holds(board, hand, cell[0], cell[1])]
    ahead = {}
    for cell in waiting:
        ahead[cell] = None
    k = 0
    while k < len(waiting):
        cell = waiting[k]
        k += 1
        for place in near(cell[0], cell[1]):
            if place not in ahead and holds(board, hand, place[0], place[1]):
                ahead[place] = cell
                waiting.append(place)
    return ahead


def way_to(cell, ahead):
    way = []
    while cell is not None:
        way.append(cell)
        cell = ahead[cell]
    return list(reversed(way))


def road(board, hand):
    ahead = reached(board, hand)
    for cell in ahead:
        if on_other_shore(board, hand, cell):
            return way_to(cell, ahead)
    return None


def joined(board, hand):
    return road(board, hand) is not None


# On no board are both hands joined, so the order of asking is free.
def joined_hand(board):
    if joined(board, NORTH):
        return NORTH
    if joined(board, WEST):
        return WEST
    return None


def winner(board):
    check_full(board)
    return joined_hand(board)
