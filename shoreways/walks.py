"""The walk along the border of the colours of a full board."""

from shoreways.boards import NORTH, WEST, check_full, has_cell, near


def on_north_shore(board, r, c):
    return (r == -1 and 0 <= c <= board.width) or (r == board.height and -1 <= c < board.width)


def on_west_shore(board, r, c):
    return 0 <= r < board.height and (c == -1 or c == board.width)


# None where the place is neither a cell nor a shore place.
def hand_at(board, r, c):
    if has_cell(board, r, c):
        return board.rows[r][c]
    if on_north_shore(board, r, c):
        return NORTH
    if on_west_shore(board, r, c):
        return WEST
    return None


def place_ahead(pair):
    west = pair[1]
    places = near(west[0], west[1])
    k = places.index(pair[0])
    return places[(k + 1) % len(places)]


# None where the walk ends with this pair.
def next_pair(board, pair):
    ahead = place_ahead(pair)
    hand = hand_at(board, ahead[0], ahead[1])
    if hand == NORTH:
        return (ahead, pair[1])
    if hand == WEST:
        return (pair[0], ahead)
    return None


def walk(board):
    check_full(board)
    pairs = []
    pair = ((-1, 0), (0, -1))
    while pair is not None:
        pairs.append(pair)
        pair = next_pair(board, pair)
    return pairs
