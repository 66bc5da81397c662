"""Points 1, 2, 3 and 11 and the interface under shoreways/boards.py."""

import unittest

from helper import (
    GREAT,
    HANDS,
    TOO_GREAT_TO_WRITE,
    all_rows,
    cells_of,
    exchanged,
    mixed_rows,
    no_cells,
    with_stone,
)

from shoreways.boards import Board, empty, laid, near, sign, turned_over
from shoreways.errors import BadBoard, NoCell

SIZES = ((1, 1), (1, 9), (9, 1), (9, 9), (2, 5), (5, 2))


class BoardsMade(unittest.TestCase):
    def test_sizes(self):
        for height in range(1, 10):
            for width in range(1, 10):
                with self.subTest(height=height, width=width):
                    rows = [("nw." * 3)[:width]] * height
                    board = Board(rows)
                    self.assertEqual((board.height, board.width), (height, width))
                    self.assertEqual(board.rows, rows)
                    self.assertIs(type(board.rows), list)

    def test_any_counts_of_stones(self):
        for rows in (["nnn"] * 3, ["ww"] * 4, ["...."], ["n", "n", "w"], ["nwn", "nn."]):
            with self.subTest(rows=rows):
                self.assertEqual(Board(rows).rows, rows)

    def test_every_small_board_is_taken(self):
        for height, width in ((1, 1), (1, 3), (3, 1), (2, 2), (2, 3)):
            for rows in all_rows(height, width, "nw."):
                self.assertEqual(Board(rows).rows, rows)


class BoardsRefused(unittest.TestCase):
    def refused(self, rows):
        kept = list(rows)
        with self.subTest(rows=rows):
            with self.assertRaises(BadBoard):
                Board(rows)
            self.assertEqual(rows, kept)

    def test_no_rows(self):
        self.refused([])

    def test_an_empty_row(self):
        for rows in ([""], ["", ""], ["", "n"], ["n", ""], ["nw", "", "nw"], [""] * 9, [""] * 10):
            self.refused(rows)

    def test_rows_of_other_lengths(self):
        for place in range(1, 9):
            for other in ("nw", "nw.n"):
                rows = ["nw."] * 9
                rows[place] = other
                self.refused(rows)
        self.refused(["nw", "nw.", "nw."])
        self.refused(["nw.n", "nw.", "nw."])
        self.refused(["n" * 9, "n" * 10])
        self.refused(["n", "nw"])

    def test_too_many_rows(self):
        for height in (10, 11, 30):
            for width in (1, 3, 9):
                self.refused(["nwnwnwnwn"[:width]] * height)

    def test_too_many_cells(self):
        for width in (10, 11, 30):
            for height in (1, 3, 9, 10):
                self.refused(["." * width] * height)

    def test_another_sign_anywhere(self):
        for mark in "NWxe 0-,_\n\t*\u00e9\uff0e\U0001f600":
            self.refused([mark])
            for r, c in cells_of(["nw.", "wn."]):
                self.refused(with_stone(["nw.", "wn."], r, c, mark))
        for r, c in cells_of(["........."] * 9):
            self.refused(with_stone(["........."] * 9, r, c, "o"))


class Signs(unittest.TestCase):
    def test_each_cell(self):
        for rows in mixed_rows(162, "nw.", 11):
            board = Board(rows)
            for r, c in cells_of(rows):
                self.assertEqual(sign(board, r, c), rows[r][c])

    def test_corners(self):
        board = Board(["n..w", "....", "w.nn"])
        self.assertEqual([sign(board, r, c) for r, c in ((0, 0), (0, 3), (2, 0), (2, 3))], ["n", "w", "w", "n"])

    def test_no_cell(self):
        for height, width in SIZES:
            board = Board(["n" * width] * height)
            for r, c in no_cells(height, width):
                with self.assertRaises(NoCell):
                    sign(board, r, c)

    def test_rows_and_columns_are_not_mistaken(self):
        board = Board(["nw.w"])
        self.assertEqual(sign(board, 0, 3), "w")
        with self.assertRaises(NoCell):
            sign(board, 3, 0)


class StonesLaid(unittest.TestCase):
    def test_on_every_cell_whatever_lay_there(self):
        for rows in mixed_rows(81, "nw.", 5):
            board = Board(rows)
            for r, c in cells_of(rows):
                for hand in HANDS:
                    after = laid(board, r, c, hand)
                    self.assertIsInstance(after, Board)
                    self.assertEqual(after.rows, with_stone(rows, r, c, hand))
                    self.assertEqual((after.height, after.width), (board.height, board.width))
                    self.assertEqual(board.rows, rows)

    def test_on_an_empty_cell_an_own_stone_and_another_hands(self):
        board = Board([".nw"])
        self.assertEqual(laid(board, 0, 0, "n").rows, ["nnw"])
        self.assertEqual(laid(board, 0, 1, "n").rows, [".nw"])
        self.assertEqual(laid(board, 0, 2, "n").rows, [".nn"])
        self.assertEqual(laid(board, 0, 0, "w").rows, ["wnw"])
        self.assertEqual(laid(board, 0, 1, "w").rows, [".ww"])
        self.assertEqual(laid(board, 0, 2, "w").rows, [".nw"])

    def test_a_new_board_even_where_nothing_changes(self):
        board = Board(["n"])
        after = laid(board, 0, 0, "n")
        self.assertIsNot(after, board)
        self.assertIsNot(after.rows, board.rows)

    def test_no_cell(self):
        for height, width in SIZES:
            rows = ["." * width] * height
            board = Board(rows)
            for r, c in no_cells(height, width):
                for hand in HANDS:
                    with self.assertRaises(NoCell):
                        laid(board, r, c, hand)
            self.assertEqual(board.rows, rows)


class EmptyCells(unittest.TestCase):
    def test_by_rows_then_columns(self):
        self.assertEqual(empty(Board([".n.", "w..", ".nw"])), [(0, 0), (0, 2), (1, 1), (1, 2), (2, 0)])

    def test_none_and_all(self):
        self.assertEqual(empty(Board(["nw", "wn"])), [])
        self.assertEqual(empty(Board(["."])), [(0, 0)])
        for height, width in SIZES:
            rows = ["." * width] * height
            self.assertEqual(empty(Board(rows)), cells_of(rows))

    def test_many_boards(self):
        for rows in mixed_rows(162, "nw.", 3):
            told = empty(Board(rows))
            self.assertEqual(told, [(r, c) for r, c in cells_of(rows) if rows[r][c] == "."])
            self.assertIs(type(told), list)
            for cell in told:
                self.assertIs(type(cell), tuple)


class PlacesNear(unittest.TestCase):
    places = [(r, c) for r in range(-3, 12) for c in range(-3, 12)]
    places += [(GREAT, -GREAT), (-GREAT, GREAT), (-1, GREAT), (GREAT, 0), (TOO_GREAT_TO_WRITE, -TOO_GREAT_TO_WRITE)]

    def test_the_six_in_their_order(self):
        self.assertEqual(near(4, 7), [(3, 7), (3, 8), (4, 8), (5, 7), (5, 6), (4, 6)])
        self.assertEqual(near(0, 0), [(-1, 0), (-1, 1), (0, 1), (1, 0), (1, -1), (0, -1)])
        self.assertEqual(near(-2, -5), [(-3, -5), (-3, -4), (-2, -4), (-1, -5), (-1, -6), (-2, -6)])

    def test_any_whole_numbers(self):
        for r, c in self.places:
            asked = [(r - 1, c), (r - 1, c + 1), (r, c + 1), (r + 1, c), (r + 1, c - 1), (r, c - 1)]
            # Not assertEqual: its words would need the greatest numbers as texts.
            self.assertTrue(near(r, c) == asked)
            self.assertIs(type(near(r, c)), list)

    def test_each_of_the_six_has_the_place_among_its_own(self):
        for r, c in self.places:
            self.assertEqual(len(set(near(r, c))), 6)
            self.assertFalse((r, c) in near(r, c))
            for place in near(r, c):
                self.assertIs(type(place), tuple)
                self.assertTrue((r, c) in near(place[0], place[1]))


class TurnedOver(unittest.TestCase):
    def test_more_rows_than_columns(self):
        self.assertEqual(turned_over(Board(["nw", "..", "wn", "n."])).rows, ["w.nw", "n.w."])

    def test_more_columns_than_rows(self):
        self.assertEqual(turned_over(Board(["nw.n"])).rows, ["w", "n", ".", "w"])
        self.assertEqual(turned_over(Board(["nnw", ".w."])).rows, ["w.", "wn", "n."])

    def test_many_boards(self):
        for rows in mixed_rows(162, "nw.", 7):
            board = Board(rows)
            over = turned_over(board)
            self.assertIsInstance(over, Board)
            self.assertEqual(over.rows, exchanged(rows))
            self.assertEqual((over.height, over.width), (board.width, board.height))
            self.assertEqual(board.rows, rows)

    def test_twice_is_the_board_again(self):
        for rows in mixed_rows(162, "nw.", 8):
            self.assertEqual(turned_over(turned_over(Board(rows))).rows, rows)

    def test_a_new_board_even_where_nothing_changes(self):
        board = Board(["."])
        over = turned_over(board)
        self.assertIsNot(over, board)
        self.assertIsNot(over.rows, board.rows)


class NothingChangedNorKept(unittest.TestCase):
    def test_the_list_handed_in_is_changed_afterwards(self):
        rows = ["nw.", ".wn"]
        board = Board(rows)
        self.assertEqual(rows, ["nw.", ".wn"])
        rows[0] = "www"
        rows.append("junk")
        self.assertEqual(board.rows, ["nw.", ".wn"])
        self.assertEqual((board.height, board.width), (2, 3))
        self.assertEqual(sign(board, 0, 0), "n")
        self.assertEqual(empty(board), [(0, 2), (1, 0)])
        self.assertEqual(laid(board, 0, 2, "n").rows, ["nwn", ".wn"])
        self.assertEqual(turned_over(board).rows, ["w.", "nn", ".w"])
        rows.clear()
        self.assertEqual(board.rows, ["nw.", ".wn"])

    def test_two_boards_of_one_list_share_none(self):
        rows = ["nw"]
        one, other = Board(rows), Board(rows)
        self.assertIsNot(one.rows, rows)
        self.assertIsNot(other.rows, rows)
        self.assertIsNot(one.rows, other.rows)

    def test_boards_that_are_told_share_no_list(self):
        board = Board(["nw", "w."])
        told = [board, laid(board, 0, 0, "n"), laid(board, 0, 0, "n"), turned_over(board), turned_over(board)]
        for k, one in enumerate(told):
            for other in told[k + 1:]:
                self.assertIsNot(one, other)
                self.assertIsNot(one.rows, other.rows)

    def test_what_near_tells_is_the_askers_own(self):
        told = near(2, 3)
        self.assertIsNot(told, near(2, 3))
        told.reverse()
        told.append("junk")
        self.assertEqual(near(2, 3), [(1, 3), (1, 4), (2, 4), (3, 3), (3, 2), (2, 2)])

    def test_what_empty_tells_is_the_askers_own(self):
        for rows in ([".n.", "w.w"], ["nw"]):
            board = Board(rows)
            told = empty(board)
            asked = list(told)
            self.assertIsNot(told, empty(board))
            told.append("junk")
            told.reverse()
            self.assertEqual(empty(board), asked)
            self.assertEqual(board.rows, rows)

    def test_the_board_is_as_it_was_behind_each_call(self):
        for rows in mixed_rows(81, "nw.", 21):
            board = Board(rows)
            kept = board.rows
            sign(board, 0, 0)
            laid(board, 0, 0, "n")
            laid(board, board.height - 1, board.width - 1, "w")
            turned_over(board)
            empty(board)
            for r, c in ((-1, 0), (0, board.width)):
                with self.assertRaises(NoCell):
                    sign(board, r, c)
                with self.assertRaises(NoCell):
                    laid(board, r, c, "n")
            self.assertIs(board.rows, kept)
            self.assertEqual(board.rows, rows)
            self.assertEqual((board.height, board.width), (len(rows), len(rows[0])))


if __name__ == "__main__":
    unittest.main()
