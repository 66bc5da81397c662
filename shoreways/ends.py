"""Ends: whether the hand that is to lay can win where few cells are empty, and by which of them."""

from shoreways.boards import empty, laid, other_hand
from shoreways.errors import Over, TooMany
from shoreways.roads import joined, joined_hand

MOST_EMPTY = 6


def check_end(board):
    if joined_hand(board) is not None:
        raise Over("a hand is joined")
    if len(empty(board)) > MOST_EMPTY:
        raise TooMany("more than six cells are empty")


def wins_by(board, hand, cell):
    after = laid(board, cell[0], cell[1], hand)
    return joined(after, hand) or not has_reply(after, other_hand(hand))


# The boards behind a stone need no check_end: the other hand was not joined ahead of it either.
def has_reply(board, hand):
    for cell in empty(board):
        if wins_by(board, hand, cell):
            return True
    return False


def can_win(board, hand):
    check_end(board)
    return has_reply(board, hand)


def replies(board, hand):
    check_end(board)
    return [cell for cell in empty(board) if wins_by(board, hand, cell)]
