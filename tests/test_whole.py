"""What holds over the whole program: points 1, 5, 8, 10 and 11, and the interface's names and arguments."""

import ast
import inspect
import pathlib
import unittest

import shoreways
from helper import (
    HANDS,
    OTHER,
    all_rows,
    cells_of,
    drawn,
    mixed_rows,
    shuffled,
)

from shoreways import boards, ends, games, roads, walks
from shoreways.boards import Board, empty, laid, turned_over
from shoreways.ends import can_win, replies
from shoreways.errors import NotFull, Over, ShoreError, TooMany
from shoreways.games import Game
from shoreways.roads import joined, road, winner
from shoreways.walks import walk

INTERFACE = (
    (boards.Board, ["rows"]),
    (boards.near, ["r", "c"]),
    (boards.sign, ["board", "r", "c"]),
    (boards.laid, ["board", "r", "c", "hand"]),
    (boards.turned_over, ["board"]),
    (boards.empty, ["board"]),
    (roads.joined, ["board", "hand"]),
    (roads.road, ["board", "hand"]),
    (roads.winner, ["board"]),
    (walks.walk, ["board"]),
    (games.Game, ["height", "width"]),
    (games.Game(1, 1).play, ["r", "c"]),
    (games.Game(1, 1).back, []),
    (games.Game(1, 1).board, []),
    (games.Game(1, 1).turn, []),
    (games.Game(1, 1).won, []),
    (games.Game(1, 1).stones, []),
    (ends.can_win, ["board", "hand"]),
    (ends.replies, ["board", "hand"]),
)


def many_boards():
    for height, width in ((1, 1), (1, 4), (4, 1), (2, 2), (2, 3), (3, 2), (1, 7), (7, 1)):
        yield from all_rows(height, width, "nw.")
    for seed, signs in ((61, "nw"), (62, "nw" * 8 + "."), (63, "nw."), (64, "nnw"), (65, "wwn")):
        yield from mixed_rows(81, signs, seed)


def walked_hand(board):
    """The hand that the last pair of the walk tells."""
    ends_of = {
        ((-1, board.width), (0, board.width)): "w",
        ((board.height, -1), (board.height - 1, -1)): "n",
    }
    return ends_of[walk(board)[-1]]


def answer(deed, *asked):
    """What was answered, or the class of the refusal."""
    try:
        return deed(*asked)
    except ShoreError as refusal:
        return type(refusal)


def filled(board, hand):
    for r, c in empty(board):
        board = laid(board, r, c, hand)
    return board


class Interface(unittest.TestCase):
    def test_names_and_arguments(self):
        for thing, asked in INTERFACE:
            with self.subTest(name=thing.__name__):
                self.assertEqual(list(inspect.signature(thing).parameters), asked)


class NoClockChanceOrFiles(unittest.TestCase):
    def test_only_own_modules_are_drawn_from(self):
        files = sorted(pathlib.Path(shoreways.__file__).parent.glob("*.py"))
        self.assertGreaterEqual(len(files), 7)
        for file in files:
            for node in ast.walk(ast.parse(file.read_text())):
                self.assertNotIsInstance(node, ast.Import, file.name)
                if isinstance(node, ast.ImportFrom):
                    self.assertEqual((node.module.split(".")[0], node.level), ("shoreways", 0), file.name)
                if isinstance(node, ast.Name):
                    self.assertNotIn(node.id, ("open", "input", "print", "eval", "exec", "hash", "id"), file.name)


class AllModulesAgree(unittest.TestCase):
    def test_on_who_is_joined(self):
        for rows in many_boards():
            board = Board(rows)
            hands = [hand for hand in HANDS if joined(board, hand)]
            self.assertEqual([hand for hand in HANDS if road(board, hand) is not None], hands, rows)
            self.assertLessEqual(len(hands), 1, rows)
            if empty(board):
                self.assertEqual((answer(winner, board), answer(walk, board)), (NotFull, NotFull), rows)
            else:
                self.assertEqual([winner(board)], hands, rows)
                self.assertEqual([walked_hand(board)], hands, rows)

    def test_on_where_ends_are_refused(self):
        for rows in many_boards():
            board = Board(rows)
            for hand in HANDS:
                told = answer(can_win, board, hand), answer(replies, board, hand)
                if joined(board, "n") or joined(board, "w"):
                    self.assertEqual(told, (Over, Over), rows)
                elif len(empty(board)) > 6:
                    self.assertEqual(told, (TooMany, TooMany), rows)
                else:
                    self.assertIs(told[0], told[1] != [], rows)

    def test_on_boards_turned_over(self):
        for rows in mixed_rows(243, "nw", 66):
            board = Board(rows)
            over = turned_over(board)
            self.assertEqual(walked_hand(over), OTHER[walked_hand(board)], rows)
            self.assertEqual(walked_hand(over), winner(over), rows)

    def test_a_stone_more_never_takes_what_the_walk_tells(self):
        for rows in mixed_rows(81, "nw", 67):
            board = Board(rows)
            hand = walked_hand(board)
            for r, c in cells_of(rows):
                self.assertEqual(walked_hand(laid(board, r, c, hand)), hand, rows)


class GamesAgree(unittest.TestCase):
    def play_drawn(self, game, numbers, until):
        """Plays drawn cells until the game is over or at most so many cells are empty."""
        for r, c in shuffled(empty(game.board()), numbers):
            if game.turn() is None or len(empty(game.board())) <= until:
                return
            game.play(r, c)

    def test_the_end_of_a_game_is_the_end_for_all(self):
        numbers = drawn(68)
        for height in range(1, 10):
            for width in range(1, 10):
                game = Game(height, width)
                self.play_drawn(game, numbers, 0)
                hand = game.won()
                board = game.board()
                self.assertIs(joined(board, hand), True)
                self.assertIs(joined(board, OTHER[hand]), False)
                self.assertEqual(answer(can_win, board, hand), Over)
                self.assertEqual(answer(replies, board, OTHER[hand]), Over)
                for other in HANDS:
                    self.assertEqual(winner(filled(board, other)), hand)
                    self.assertEqual(walked_hand(filled(board, other)), hand)

    def finish(self, game, numbers, hand):
        """This hand lays by told replies, the other one as it is drawn."""
        while game.turn() is not None:
            board = game.board()
            self.assertIs(can_win(board, game.turn()), game.turn() == hand, board.rows)
            cells = replies(board, hand) if game.turn() == hand else empty(board)
            r, c = cells[next(numbers) % len(cells)]
            game.play(r, c)
        self.assertEqual(game.won(), hand)

    def test_games_are_won_by_told_replies(self):
        numbers = drawn(69)
        finished = {"n": 0, "w": 0}
        for number in range(400):
            game = Game(2 + number % 4, 2 + number // 4 % 4)
            self.play_drawn(game, numbers, 6)
            if game.turn() is not None:
                hand = game.turn() if can_win(game.board(), game.turn()) else OTHER[game.turn()]
                self.finish(game, numbers, hand)
                finished[hand] += 1
        self.assertGreater(min(finished.values()), 20)


class NothingKept(unittest.TestCase):
    def asked(self, board):
        told = [answer(winner, board), answer(walk, board)]
        for hand in HANDS:
            for ask in (joined, road, can_win, replies):
                told.append(answer(ask, board, hand))
        return told

    def test_the_answers_do_not_hang_on_what_was_asked_before(self):
        chosen = list(mixed_rows(81, "nw", 70)) + list(mixed_rows(81, "nw" * 8 + ".", 71))
        first = [self.asked(Board(rows)) for rows in chosen]
        for told in first:
            for part in told:
                if isinstance(part, list):
                    part.append("junk")
        again = [self.asked(Board(rows)) for rows in reversed(chosen)]
        for told, later in zip(first, reversed(again)):
            for part, late in zip(told, later):
                if isinstance(part, list):
                    part.pop()
                    self.assertIsNot(part, late)
                self.assertEqual(part, late)

    def test_no_two_told_lists_are_one(self):
        for rows in (["nw", "wn"], ["n.", "w."], ["."], ["n"]):
            board = Board(rows)
            told = [part for part in self.asked(board) + self.asked(board) if isinstance(part, list)]
            told += [board.rows, empty(board), empty(board), turned_over(board).rows]
            self.assertEqual(len({id(part) for part in told}), len(told))


if __name__ == "__main__":
    unittest.main()
