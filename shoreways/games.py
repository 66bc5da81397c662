"""Games: the hands lay stones by turns until one of them is joined."""

from shoreways.boards import EMPTY, MOST, NORTH, WEST, Board, laid, sign
from shoreways.errors import BadBoard, NoStone, Over, Taken
from shoreways.roads import joined_hand


# Asked ahead of any row, since one of a very great length could not be made.
def check_size(height, width):
    if not (1 <= height <= MOST and 1 <= width <= MOST):
        raise BadBoard("a game has 1 to 9 rows of 1 to 9 cells")


class Game:
    def __init__(self, height, width):
        check_size(height, width)
        self.cells = []
        # The board behind each count of stones, so that to take one back is to drop the last board.
        self.positions = [Board([EMPTY * width] * height)]

    def play(self, r, c):
        hand = self.turn()
        if hand is None:
            raise Over("the game is over")
        position = self.positions[-1]
        if sign(position, r, c) != EMPTY:
            raise Taken("a stone lies there")
        self.positions.append(laid(position, r, c, hand))
        self.cells.append((r, c))

    def back(self):
        if len(self.cells) == 0:
            raise NoStone("no stone was laid")
        self.positions.pop()
        return self.cells.pop()

    def board(self):
        return Board(self.positions[-1].rows)

    def turn(self):
        if self.won() is not None:
            return None
        if len(self.cells) % 2 == 0:
            return NORTH
        return WEST

    def won(self):
        return joined_hand(self.positions[-1])

    def stones(self):
        return list(self.cells)
