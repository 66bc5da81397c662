"""Points 1, 4, 5 and 11 and the interface under shoreways/roads.py."""

import unittest

from helper import (
    CLIMBING,
    HANDS,
    SMALL_FULL,
    SNAKE,
    all_rows,
    cells_of,
    exchanged,
    fault_of_road,
    is_joined,
    mixed_rows,
    with_stone,
)

from shoreways.boards import Board, laid, turned_over
from shoreways.errors import NotFull
from shoreways.roads import joined, road, winner

SMALL = ((1, 1), (1, 2), (2, 1), (1, 5), (5, 1), (2, 2), (2, 3), (3, 2), (2, 4), (4, 2), (3, 3))


class RoadTests(unittest.TestCase):
    def held_against_the_words(self, rows, hand):
        """Asks for the road of the hand, and answers whether it has one."""
        board = Board(rows)
        told = road(board, hand)
        has_road = is_joined(rows, hand)
        self.assertIs(joined(board, hand), has_road, (rows, hand))
        if has_road:
            self.assertIsNone(fault_of_road(rows, hand, told), (rows, hand, told))
        else:
            self.assertIsNone(told, (rows, hand))
        return has_road

    def with_and_without_other_stones(self, rows, hand):
        other = "w" if hand == "n" else "n"
        return (rows, [row.replace(other, ".") for row in rows])


class Roads(RoadTests):
    def test_a_single_cell(self):
        self.assertEqual(road(Board(["n"]), "n"), [(0, 0)])
        self.assertEqual(road(Board(["w"]), "w"), [(0, 0)])
        self.assertEqual(road(Board(["wwnww"]), "n"), [(0, 2)])
        self.assertEqual(road(Board(["n", ".", "w", "n"]), "w"), [(2, 0)])
        self.assertEqual(road(Board(["........n"]), "n"), [(0, 8)])
        self.assertEqual(road(Board(["."] * 8 + ["w"]), "w"), [(8, 0)])

    def test_no_single_cell(self):
        for hand, rows in (("w", ["n"]), ("n", ["w"]), ("n", ["."]), ("w", ["."]), ("w", [".w."]), ("n", ["n", "."])):
            with self.subTest(hand=hand, rows=rows):
                self.assertIs(joined(Board(rows), hand), False)
                self.assertIsNone(road(Board(rows), hand))

    def test_straight_roads(self):
        self.assertEqual(road(Board([".n", ".n", ".n"]), "n"), [(0, 1), (1, 1), (2, 1)])
        self.assertEqual(road(Board(["...", "www"]), "w"), [(1, 0), (1, 1), (1, 2)])
        self.assertEqual(road(Board(["wwwwwwwww"]), "w"), [(0, c) for c in range(9)])
        self.assertEqual(road(Board(["n"] * 9), "n"), [(r, 0) for r in range(9)])

    def test_which_slanting_cells_are_near(self):
        self.assertEqual(road(Board([".n", "n."]), "n"), [(0, 1), (1, 0)])
        self.assertEqual(road(Board([".w", "w."]), "w"), [(1, 0), (0, 1)])
        self.assertIsNone(road(Board(["n.", ".n"]), "n"))
        self.assertIsNone(road(Board(["w.", ".w"]), "w"))

    def test_no_road_through_empty_cells_or_the_other_hands(self):
        for mark in ".w":
            self.assertIs(joined(Board(["n", mark, "n"]), "n"), False)
        for mark in ".n":
            self.assertIs(joined(Board(["w" + mark + "w"]), "w"), False)

    def test_a_road_between_the_other_hands_shores_is_none(self):
        self.assertIs(joined(Board(["...", "nnn", "..."]), "n"), False)
        self.assertIs(joined(Board([".w.", ".w.", ".w."]), "w"), False)

    def test_no_road_round_the_edge(self):
        # A place one below 0 must not be taken for the last cell of its row.
        self.assertIs(joined(Board(["n..", "..n", "..n"]), "n"), False)
        self.assertIs(joined(Board(["n..", "...", "n.."]), "n"), False)
        self.assertIs(joined(Board(["w.w", "...", "..."]), "w"), False)

    def test_winding_roads(self):
        for north in (CLIMBING, SNAKE, [row[::-1] for row in SNAKE]):
            for hand, rows in (("n", north), ("w", exchanged(north))):
                for variant in self.with_and_without_other_stones(rows, hand):
                    self.assertTrue(self.held_against_the_words(variant, hand))
                    self.assertIs(joined(Board(variant), hand), True)

    def test_winding_roads_are_told_whole(self):
        # Which road is told is free, but none on these boards has fewer cells.
        self.assertGreaterEqual(len(road(Board(CLIMBING), "n")), 21)
        self.assertGreaterEqual(len(road(Board(SNAKE), "n")), 4 * 8)

    def test_a_winding_road_cut_anywhere(self):
        for hand, rows in (("n", CLIMBING), ("w", exchanged(CLIMBING)), ("n", SNAKE), ("w", exchanged(SNAKE))):
            other = "w" if hand == "n" else "n"
            for r, c in cells_of(rows):
                for mark in (other, "."):
                    self.held_against_the_words(with_stone(rows, r, c, mark), hand)
        self.assertIs(joined(Board(with_stone(CLIMBING, 3, 4, ".")), "n"), False)
        self.assertIs(joined(Board(with_stone(SNAKE, 4, 0, "w")), "n"), False)

    def test_all_boards_of_a_few_cells(self):
        for height, width in SMALL:
            for rows in all_rows(height, width, "nw."):
                for hand in HANDS:
                    self.held_against_the_words(rows, hand)

    def test_boards_of_all_sizes(self):
        found = {"n": 0, "w": 0}
        for seed, signs in ((1, "nw."), (2, "nw"), (3, "nnw"), (4, "wwn."), (5, "nnn."), (6, "www.")):
            for rows in mixed_rows(162, signs, seed):
                for hand in HANDS:
                    found[hand] += self.held_against_the_words(rows, hand)
        self.assertGreater(found["n"], 200)
        self.assertGreater(found["w"], 200)

    def test_empty_boards(self):
        for height, width in ((1, 1), (1, 9), (9, 1), (9, 9)):
            for hand in HANDS:
                board = Board(["." * width] * height)
                self.assertIs(joined(board, hand), False)
                self.assertIsNone(road(board, hand))


class Winners(unittest.TestCase):
    def test_ordinary_boards(self):
        self.assertEqual(winner(Board(["n"])), "n")
        self.assertEqual(winner(Board(["w"])), "w")
        self.assertEqual(winner(Board(["nw", "wn"])), "w")
        self.assertEqual(winner(Board(["wn", "nw"])), "n")
        self.assertEqual(winner(Board(["wwwwnwwww"])), "n")
        self.assertEqual(winner(Board(["wwwwwwwww"])), "w")
        self.assertEqual(winner(Board(CLIMBING)), "n")
        self.assertEqual(winner(Board(exchanged(CLIMBING))), "w")
        self.assertEqual(winner(Board(["n" * 9] * 9)), "n")
        self.assertEqual(winner(Board(["w" * 9] * 9)), "w")

    def test_on_no_board_of_a_few_cells_are_both_joined(self):
        for height, width in SMALL:
            for rows in all_rows(height, width, "nw."):
                board = Board(rows)
                self.assertFalse(joined(board, "n") and joined(board, "w"), rows)

    def test_on_a_full_board_of_a_few_cells_just_one_is_joined_and_told(self):
        for height, width in SMALL_FULL:
            for rows in all_rows(height, width, "nw"):
                board = Board(rows)
                hands = [hand for hand in HANDS if joined(board, hand)]
                self.assertEqual([winner(board)], hands, rows)
                self.assertTrue(is_joined(rows, winner(board)), rows)

    def test_full_boards_of_all_sizes(self):
        for rows in mixed_rows(486, "nw", 17):
            board = Board(rows)
            hands = [hand for hand in HANDS if joined(board, hand)]
            self.assertEqual([winner(board)], hands, rows)
            self.assertTrue(is_joined(rows, winner(board)), rows)

    def test_not_full_with_one_empty_cell(self):
        for rows in (["n"], ["w"], ["nw", "wn"], CLIMBING, exchanged(CLIMBING), SNAKE, ["n" * 9], ["w"] * 9):
            for r, c in cells_of(rows):
                with self.assertRaises(NotFull):
                    winner(Board(with_stone(rows, r, c, ".")))

    def test_not_full_on_all_small_boards_with_empty_cells(self):
        for height, width in SMALL:
            for rows in all_rows(height, width, "nw."):
                if "." in "".join(rows):
                    with self.assertRaises(NotFull):
                        winner(Board(rows))


class BoardsTurnedOver(unittest.TestCase):
    def test_the_other_hand_is_joined_there(self):
        boards = [rows for height, width in SMALL for rows in all_rows(height, width, "nw.")]
        for rows in boards + list(mixed_rows(324, "nw", 9)) + [CLIMBING, SNAKE]:
            board = Board(rows)
            over = turned_over(board)
            self.assertIs(joined(over, "w"), joined(board, "n"), rows)
            self.assertIs(joined(over, "n"), joined(board, "w"), rows)

    def test_the_other_hand_wins_there(self):
        for rows in mixed_rows(162, "nw", 10):
            board = Board(rows)
            self.assertNotEqual(winner(turned_over(board)), winner(board))

    def test_a_road_turned_over_is_one_of_the_other_hand(self):
        for rows in (CLIMBING, SNAKE, ["wn", "nw"], ["..n", ".n.", "n..", "n.."]):
            way = road(Board(rows), "n")
            turned = [(c, r) for r, c in way]
            self.assertIsNone(fault_of_road(turned_over(Board(rows)).rows, "w", turned))


class StonesLaidOnRoads(unittest.TestCase):
    def never_taken(self, rows):
        board = Board(rows)
        for hand in HANDS:
            if joined(board, hand):
                for r, c in cells_of(rows):
                    after = laid(board, r, c, hand)
                    self.assertIs(joined(after, hand), True, (rows, hand, r, c))
                    self.assertIsNone(fault_of_road(after.rows, hand, road(board, hand)))

    def test_all_boards_of_a_few_cells(self):
        for height, width in ((1, 1), (1, 4), (4, 1), (2, 2), (2, 3), (3, 2)):
            for rows in all_rows(height, width, "nw."):
                self.never_taken(rows)

    def test_winding_roads(self):
        for rows in (CLIMBING, SNAKE, exchanged(CLIMBING), exchanged(SNAKE)):
            self.never_taken(rows)

    def test_boards_of_all_sizes(self):
        for rows in mixed_rows(81, "nw", 12):
            self.never_taken(rows)
        for rows in mixed_rows(81, "nnnww.", 13):
            self.never_taken(rows)


class NothingChangedNorKept(unittest.TestCase):
    def test_what_road_tells_is_the_askers_own(self):
        for hand, rows in (("n", CLIMBING), ("w", exchanged(CLIMBING)), ("n", ["n"]), ("w", ["w"])):
            board = Board(rows)
            told = road(board, hand)
            asked = list(told)
            self.assertIsNot(told, road(board, hand))
            told.reverse()
            told.append("junk")
            self.assertEqual(road(board, hand), asked)
            self.assertIs(joined(board, hand), True)
            self.assertEqual(board.rows, rows)

    def test_the_list_handed_in_is_changed_afterwards(self):
        rows = ["nw", "nw"]
        board = Board(rows)
        rows[1] = "ww"
        self.assertEqual(road(board, "n"), [(0, 0), (1, 0)])
        self.assertEqual(winner(board), "n")
        rows.clear()
        self.assertIs(joined(board, "n"), True)
        self.assertIs(joined(board, "w"), False)

    def test_the_board_is_as_it_was_behind_each_call(self):
        for rows in list(mixed_rows(81, "nw.", 14)) + list(mixed_rows(81, "nw", 15)):
            board = Board(rows)
            kept = board.rows
            for hand in HANDS:
                joined(board, hand)
                road(board, hand)
            if "." in "".join(rows):
                with self.assertRaises(NotFull):
                    winner(board)
            else:
                winner(board)
            self.assertIs(board.rows, kept)
            self.assertEqual(board.rows, rows)
            self.assertEqual((board.height, board.width), (len(rows), len(rows[0])))


if __name__ == "__main__":
    unittest.main()
