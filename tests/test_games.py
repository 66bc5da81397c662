"""Points 1 and 9 and the interface under shoreways/games.py."""

import unittest

from helper import (
    GREAT,
    HANDS,
    TOO_GREAT_TO_WRITE,
    cells_of,
    drawn,
    empty_cells,
    is_joined,
    no_cells,
    shuffled,
    with_stone,
)

from shoreways.boards import Board, empty, laid
from shoreways.errors import BadBoard, NoCell, NoStone, Over, Taken
from shoreways.games import Game

SIZES = ((1, 1), (1, 9), (9, 1), (9, 9), (2, 2), (2, 5), (5, 2), (3, 3), (4, 6))


def empty_rows(height, width):
    return ["." * width] * height


def rows_after(height, width, played):
    """The rows behind these stones, the first one the north hand's, then by turns."""
    rows = empty_rows(height, width)
    for number, (r, c) in enumerate(played):
        rows = with_stone(rows, r, c, HANDS[number % 2])
    return rows


def joined_on(rows):
    hands = [hand for hand in HANDS if is_joined(rows, hand)]
    return hands[0] if hands else None


class GameTests(unittest.TestCase):
    def held(self, game, height, width, played):
        """Holds all that the game tells against the stones played, and answers who has won."""
        rows = rows_after(height, width, played)
        won = joined_on(rows)
        board = game.board()
        self.assertIs(type(board), Board)
        self.assertEqual((board.rows, board.height, board.width), (rows, height, width))
        self.assertEqual(game.won(), won, rows)
        self.assertEqual(game.turn(), None if won else HANDS[len(played) % 2], rows)
        told = game.stones()
        self.assertEqual(told, played)
        self.assertIs(type(told), list)
        for cell in told:
            self.assertIs(type(cell), tuple)
        return won

    def played_out(self, height, width, order):
        """A game played in this order until it is over, and the stones played."""
        game = Game(height, width)
        played = []
        for r, c in order:
            if self.held(game, height, width, played) is not None:
                break
            self.assertIsNone(game.play(r, c))
            played.append((r, c))
        self.assertIsNotNone(self.held(game, height, width, played))
        return game, played

    def refused(self, refusal, game, places):
        for r, c in places:
            with self.assertRaises(refusal):
                game.play(r, c)


class Sizes(GameTests):
    def test_every_size(self):
        for height in range(1, 10):
            for width in range(1, 10):
                self.assertIsNone(self.held(Game(height, width), height, width, []))

    def test_refused_sizes(self):
        bad = (0, 10, -1, -9, 11, 100, GREAT, -GREAT, TOO_GREAT_TO_WRITE, -TOO_GREAT_TO_WRITE)
        for wrong in bad:
            for other in (1, 5, 9) + bad:
                with self.assertRaises(BadBoard):
                    Game(wrong, other)
                with self.assertRaises(BadBoard):
                    Game(other, wrong)


class GamesPlayed(GameTests):
    def test_the_north_hand_lays_first_then_by_turns(self):
        game = Game(3, 3)
        told = []
        for r, c in ((0, 0), (1, 1), (2, 2), (0, 1)):
            told.append(game.turn())
            game.play(r, c)
        self.assertEqual(told, ["n", "w", "n", "w"])
        self.assertEqual(game.turn(), "n")
        self.assertEqual(game.board().rows, ["nw.", ".w.", "..n"])
        self.assertEqual(game.stones(), [(0, 0), (1, 1), (2, 2), (0, 1)])
        self.assertIsNone(game.won())

    def test_the_north_hand_wins(self):
        game = Game(2, 2)
        for r, c in ((0, 0), (0, 1), (1, 0)):
            self.assertIsNone(game.won())
            game.play(r, c)
        self.assertEqual((game.won(), game.turn()), ("n", None))
        self.assertEqual(game.board().rows, ["nw", "n."])

    def test_the_west_hand_wins(self):
        game = Game(2, 2)
        for r, c in ((0, 0), (1, 0), (1, 1), (0, 1)):
            self.assertIsNone(game.won())
            game.play(r, c)
        self.assertEqual((game.won(), game.turn()), ("w", None))
        self.assertEqual(game.board().rows, ["nw", "wn"])

    def test_one_row_and_one_column(self):
        for width in range(1, 10):
            for c in range(width):
                game = Game(1, width)
                game.play(0, c)
                self.assertEqual((game.won(), game.turn()), ("n", None))
        for height in range(2, 10):
            game = Game(height, 1)
            game.play(height - 1, 0)
            self.assertEqual((game.won(), game.turn()), (None, "w"))
            game.play(0, 0)
            self.assertEqual((game.won(), game.turn()), ("w", None))

    def test_games_of_all_sizes_in_drawn_orders(self):
        numbers = drawn(41)
        wins = {"n": 0, "w": 0}
        for height in range(1, 10):
            for width in range(1, 10):
                order = shuffled(cells_of(empty_rows(height, width)), numbers)
                game, played = self.played_out(height, width, order)
                wins[game.won()] += 1
        self.assertGreater(min(wins.values()), 20)

    def test_every_game_on_a_few_cells(self):
        for height, width in ((1, 1), (1, 3), (3, 1), (2, 2), (2, 3), (3, 2)):
            self.play_every_way(Game(height, width), height, width, [])

    def play_every_way(self, game, height, width, played):
        if self.held(game, height, width, played) is not None:
            return
        for cell in empty_cells(rows_after(height, width, played)):
            game.play(cell[0], cell[1])
            self.play_every_way(game, height, width, played + [cell])
            self.assertEqual(game.back(), cell)
        self.held(game, height, width, played)


class StonesRefused(GameTests):
    def test_no_cell(self):
        for height, width in SIZES:
            game = Game(height, width)
            self.refused(NoCell, game, no_cells(height, width))
            self.held(game, height, width, [])

    def test_no_cell_where_a_stone_would_lie_counted_from_the_end(self):
        game = Game(3, 3)
        game.play(2, 2)
        self.refused(NoCell, game, [(-1, -1), (-1, 2), (2, -1)])
        self.held(game, 3, 3, [(2, 2)])

    def test_rows_and_columns_are_not_mistaken(self):
        game = Game(2, 4)
        self.refused(NoCell, game, [(3, 1), (2, 0)])
        game.play(1, 3)
        self.held(game, 2, 4, [(1, 3)])

    def test_taken_and_no_cell_behind_every_stone(self):
        numbers = drawn(42)
        for height, width in SIZES:
            game = Game(height, width)
            played = []
            for r, c in shuffled(cells_of(empty_rows(height, width)), numbers):
                if game.won() is not None:
                    break
                self.refused(Taken, game, played)
                self.refused(NoCell, game, no_cells(height, width))
                self.held(game, height, width, played)
                game.play(r, c)
                played.append((r, c))

    def test_taken_by_either_hand(self):
        game = Game(3, 3)
        game.play(0, 0)
        self.refused(Taken, game, [(0, 0)])
        game.play(2, 2)
        self.refused(Taken, game, [(0, 0), (2, 2)])
        self.held(game, 3, 3, [(0, 0), (2, 2)])

    def test_over_on_empty_cells_and_ahead_of_the_other_refusals(self):
        numbers = drawn(43)
        for height, width in SIZES:
            order = shuffled(cells_of(empty_rows(height, width)), numbers)
            game, played = self.played_out(height, width, order)
            self.refused(Over, game, empty(game.board()))
            self.refused(Over, game, no_cells(height, width))
            self.refused(Over, game, played)
            self.held(game, height, width, played)


class StonesTakenBack(GameTests):
    def no_stone(self, game):
        with self.assertRaises(NoStone):
            game.back()

    def test_no_stone_in_a_new_game(self):
        for height, width in SIZES:
            game = Game(height, width)
            self.no_stone(game)
            self.no_stone(game)
            self.held(game, height, width, [])
            game.play(height - 1, width - 1)
            self.held(game, height, width, [(height - 1, width - 1)])

    def test_down_to_the_first_stone_then_none(self):
        numbers = drawn(44)
        for height, width in SIZES:
            order = shuffled(cells_of(empty_rows(height, width)), numbers)
            game, played = self.played_out(height, width, order)
            while played:
                told = game.back()
                self.assertIs(type(told), tuple)
                self.assertEqual(told, played.pop())
                self.assertIsNone(self.held(game, height, width, played))
            self.no_stone(game)
            self.held(game, height, width, [])

    def test_behind_the_end_and_played_on(self):
        game = Game(2, 2)
        for r, c in ((0, 0), (0, 1), (1, 0)):
            game.play(r, c)
        self.refused(Over, game, [(1, 1)])
        self.assertEqual(game.back(), (1, 0))
        self.assertEqual((game.won(), game.turn()), (None, "n"))
        game.play(1, 1)
        self.assertEqual((game.won(), game.turn()), (None, "w"))
        game.play(1, 0)
        self.assertEqual((game.won(), game.turn()), ("w", None))
        self.assertEqual(game.stones(), [(0, 0), (0, 1), (1, 1), (1, 0)])
        self.assertEqual(game.board().rows, ["nw", "wn"])

    def test_a_cell_taken_back_is_free_for_the_other_hand(self):
        game = Game(3, 3)
        game.play(0, 0)
        game.play(1, 1)
        game.back()
        game.back()
        game.play(1, 1)
        game.play(0, 0)
        self.held(game, 3, 3, [(1, 1), (0, 0)])

    def test_to_and_fro_in_drawn_order(self):
        numbers = drawn(45)
        for height, width in SIZES:
            game = Game(height, width)
            played = []
            for _ in range(60):
                free = empty_cells(rows_after(height, width, played))
                if game.won() is None and next(numbers) % 3:
                    r, c = free[next(numbers) % len(free)]
                    game.play(r, c)
                    played.append((r, c))
                elif played:
                    self.assertEqual(game.back(), played.pop())
                else:
                    self.no_stone(game)
                self.held(game, height, width, played)


class NothingChangedNorKept(GameTests):
    def test_the_told_list_of_stones_is_the_askers_own(self):
        game = Game(3, 3)
        for played in ([], [(0, 0)], [(0, 0), (1, 1)]):
            told = game.stones()
            self.assertIsNot(told, game.stones())
            told.reverse()
            told.append((2, 2))
            self.held(game, 3, 3, played)
            told.clear()
            self.held(game, 3, 3, played)
            game.play(len(played), len(played))

    def test_a_kept_list_of_stones_stays_as_it_was(self):
        game = Game(3, 3)
        game.play(0, 0)
        kept = game.stones()
        game.play(1, 1)
        self.assertEqual(kept, [(0, 0)])
        game.back()
        game.back()
        self.assertEqual(kept, [(0, 0)])

    def test_a_told_board_is_the_askers_own(self):
        game = Game(2, 3)
        for played in ([], [(0, 0)], [(0, 0), (0, 1)]):
            told = game.board()
            self.assertIsNot(told, game.board())
            self.assertIsNot(told.rows, game.board().rows)
            told.rows[0] = "nnn"
            told.rows.append("nnn")
            self.held(game, 2, 3, played)
            told.rows.clear()
            told.height = 9
            self.held(game, 2, 3, played)
            game.play(0, len(played))
        self.assertIsNone(game.won())
        self.assertEqual(game.back(), (0, 2))
        self.held(game, 2, 3, [(0, 0), (0, 1)])

    def test_a_kept_board_stays_as_it_was(self):
        game = Game(2, 2)
        kept = [game.board()]
        for r, c in ((0, 0), (0, 1), (1, 0)):
            game.play(r, c)
            kept.append(game.board())
        asked = [["..", ".."], ["n.", ".."], ["nw", ".."], ["nw", "n."]]
        self.assertEqual([board.rows for board in kept], asked)
        for _ in range(3):
            game.back()
        self.assertEqual([board.rows for board in kept], asked)

    def test_a_stone_laid_on_a_told_board_is_none_of_the_games(self):
        game = Game(2, 2)
        laid(game.board(), 0, 0, "n")
        self.held(game, 2, 2, [])

    def test_asking_changes_nothing(self):
        game = Game(3, 3)
        game.play(1, 1)
        for _ in range(3):
            game.turn(), game.won(), game.board(), game.stones()
            self.held(game, 3, 3, [(1, 1)])

    def test_two_games_share_nothing(self):
        one, other = Game(2, 2), Game(2, 2)
        one.play(0, 0)
        self.held(one, 2, 2, [(0, 0)])
        self.held(other, 2, 2, [])
        other.play(1, 1)
        other.play(0, 0)
        one.back()
        self.held(one, 2, 2, [])
        self.held(other, 2, 2, [(1, 1), (0, 0)])


if __name__ == "__main__":
    unittest.main()
