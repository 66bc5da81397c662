"""Points 1, 5, 10 and 11 and the interface under shoreways/ends.py."""

import unittest

from helper import (
    CLIMBING,
    HANDS,
    OTHER,
    SNAKE,
    all_rows,
    cells_of,
    drawn,
    empty_cells,
    exchanged,
    is_joined,
    mixed_rows,
    nobody_joined,
    shuffled,
    winning_cells,
    with_stone,
)

from shoreways.boards import Board, empty, laid, turned_over
from shoreways.ends import can_win, replies
from shoreways.errors import Over, TooMany
from shoreways.roads import joined

SMALL = ((1, 1), (1, 2), (2, 1), (1, 3), (3, 1), (1, 6), (6, 1), (2, 2), (2, 3), (3, 2), (2, 4), (4, 2))
ASKED = (can_win, replies)


def open_boards(height, width):
    """All boards of this size with nobody joined and at most six cells empty."""
    for rows in all_rows(height, width, "nw."):
        if 1 <= len(empty_cells(rows)) <= 6 and nobody_joined(rows):
            yield rows


def drawn_boards(count, seed):
    """Drawn boards of all sizes with nobody joined and one to six cells empty."""
    numbers = drawn(seed)
    for rows in mixed_rows(count, "nw", seed):
        for r, c in shuffled(cells_of(rows), numbers)[:6]:
            rows = with_stone(rows, r, c, ".")
            if nobody_joined(rows):
                yield rows


class EndTests(unittest.TestCase):
    def held_against_the_words(self, rows, hand):
        """Holds both answers against point 10 gone through a second time, and tells whether the hand can win."""
        board = Board(rows)
        asked = winning_cells(rows, hand)
        told = replies(board, hand)
        self.assertEqual(told, asked, (rows, hand))
        self.assertIs(type(told), list)
        for cell in told:
            self.assertIs(type(cell), tuple)
        self.assertIs(can_win(board, hand), bool(asked), (rows, hand))
        return bool(asked)

    def refused(self, refusal, rows):
        board = Board(rows)
        for hand in HANDS:
            for ask in ASKED:
                with self.assertRaises(refusal):
                    ask(board, hand)
        self.assertEqual(board.rows, rows)


class Ends(EndTests):
    def test_joined_by_one_stone(self):
        self.assertIs(can_win(Board(["."]), "n"), True)
        self.assertEqual(replies(Board(["."]), "n"), [(0, 0)])
        self.assertEqual(replies(Board(["."]), "w"), [(0, 0)])
        self.assertEqual(replies(Board(["w.w", "n.n"]), "n"), [(0, 1)])
        self.assertEqual(replies(Board(["w.w", "n.n"]), "w"), [(0, 1)])

    def test_won_by_a_later_stone(self):
        # From these cells two ways lead on to a shore, and the other hand can close but one of them.
        self.assertEqual(replies(Board(["..", ".."]), "n"), [(0, 1), (1, 0)])
        self.assertEqual(replies(Board(["..", ".."]), "w"), [(0, 1), (1, 0)])
        self.assertEqual(replies(Board(["...", "w.."]), "n"), [(0, 2), (1, 1)])

    def test_a_hand_that_can_not_win(self):
        for hand, rows in (("w", [".n", ".."]), ("n", ["..", "w."]), ("n", [".w.", ".w.", "nnn"])):
            board = Board(rows)
            self.assertIs(can_win(board, hand), False)
            self.assertEqual(replies(board, hand), [])
            self.assertIs(can_win(board, OTHER[hand]), True)

    def test_one_row_and_one_column(self):
        for width in range(1, 7):
            rows = ["." * width]
            self.assertEqual(replies(Board(rows), "n"), empty_cells(rows))
            self.assertIs(can_win(Board(rows), "w"), width == 1)
        for height in range(1, 7):
            rows = ["."] * height
            self.assertEqual(replies(Board(rows), "w"), empty_cells(rows))
            self.assertIs(can_win(Board(rows), "n"), height == 1)

    def test_all_boards_of_a_few_cells(self):
        found = {True: 0, False: 0}
        for height, width in SMALL:
            for rows in open_boards(height, width):
                for hand in HANDS:
                    found[self.held_against_the_words(rows, hand)] += 1
        self.assertGreater(min(found.values()), 500)

    def test_all_boards_of_nine_cells(self):
        for rows in open_boards(3, 3):
            for hand in HANDS:
                self.held_against_the_words(rows, hand)

    def test_drawn_boards_of_all_sizes(self):
        found = {True: 0, False: 0}
        counts = set()
        for rows in drawn_boards(324, 51):
            counts.add(len(empty_cells(rows)))
            for hand in HANDS:
                found[self.held_against_the_words(rows, hand)] += 1
        self.assertEqual(counts, {1, 2, 3, 4, 5, 6})
        self.assertGreater(min(found.values()), 20)

    def test_where_one_hand_can_not_win_the_other_can(self):
        for rows in [*open_boards(2, 3), *open_boards(3, 2), *drawn_boards(81, 52)]:
            for hand in HANDS:
                board = Board(rows)
                if not can_win(board, hand):
                    for r, c in empty(board):
                        after = laid(board, r, c, hand)
                        self.assertIs(joined(after, hand), False, rows)
                        self.assertIs(can_win(after, OTHER[hand]), True, rows)


class EndsRefused(EndTests):
    def test_over_on_full_boards(self):
        for height, width in ((1, 1), (1, 4), (4, 1), (2, 2), (2, 3), (3, 3)):
            for rows in all_rows(height, width, "nw"):
                self.refused(Over, rows)
        for rows in (CLIMBING, SNAKE, exchanged(CLIMBING), exchanged(SNAKE)):
            self.refused(Over, rows)

    def test_over_on_all_small_boards_where_a_hand_is_joined(self):
        for height, width in SMALL:
            for rows in all_rows(height, width, "nw."):
                if not nobody_joined(rows):
                    self.refused(Over, rows)

    def test_over_ahead_of_too_many(self):
        self.refused(Over, ["n......."])
        self.refused(Over, ["w"] + ["."] * 7)
        self.refused(Over, [".......n."])
        self.refused(Over, ["n........"] * 9)
        self.refused(Over, ["w" * 9] + ["." * 9] * 8)
        for count in (7, 8):
            for rows in all_rows(3, 3, "nw."):
                if len(empty_cells(rows)) >= count and not nobody_joined(rows):
                    self.refused(Over, rows)

    def test_too_many_with_just_seven(self):
        self.refused(TooMany, ["......."])
        self.refused(TooMany, ["."] * 7)
        self.refused(TooMany, ["w......."])
        self.refused(TooMany, ["n"] + ["."] * 7)
        for height, width in ((2, 4), (4, 2), (3, 3)):
            for rows in all_rows(height, width, "nw."):
                if len(empty_cells(rows)) == 7 and nobody_joined(rows):
                    self.refused(TooMany, rows)

    def test_six_are_not_too_many_and_seven_are(self):
        numbers = drawn(53)
        met = 0
        for rows in mixed_rows(324, "nw", 53):
            holes = shuffled(cells_of(rows), numbers)[:7]
            for r, c in holes[:6]:
                rows = with_stone(rows, r, c, ".")
            if len(holes) == 7 and nobody_joined(rows):
                met += 1
                for hand in HANDS:
                    self.held_against_the_words(rows, hand)
                self.refused(TooMany, with_stone(rows, holes[6][0], holes[6][1], "."))
        self.assertGreater(met, 20)

    def test_too_many_with_more(self):
        for height, width in ((1, 8), (8, 1), (1, 9), (9, 1), (3, 3), (9, 9)):
            self.refused(TooMany, ["." * width] * height)
        self.refused(TooMany, [".n.", "...", "w.."])


class PlayedOut(EndTests):
    def win_by_told_replies(self, board, hand):
        """The hand, which is to lay, lays every told reply, and the other one answers in every way."""
        told = replies(board, hand)
        self.assertNotEqual(told, [], board.rows)
        for r, c in told:
            after = laid(board, r, c, hand)
            self.lose_against_told_replies(after, OTHER[hand])

    def lose_against_told_replies(self, board, hand):
        """The hand, which is to lay, lays in every way, and the other one lays every told reply."""
        self.assertFalse(is_joined(board.rows, hand), board.rows)
        if is_joined(board.rows, OTHER[hand]):
            return
        self.assertNotEqual(empty(board), [], board.rows)
        for r, c in empty(board):
            after = laid(board, r, c, hand)
            self.assertFalse(is_joined(after.rows, hand), after.rows)
            self.win_by_told_replies(after, OTHER[hand])

    def play_out(self, rows):
        for hand in HANDS:
            board = Board(rows)
            if can_win(board, hand):
                self.win_by_told_replies(board, hand)
            else:
                self.lose_against_told_replies(board, hand)

    def test_all_boards_of_a_few_cells(self):
        for height, width in ((1, 1), (1, 4), (4, 1), (2, 2), (2, 3), (3, 2)):
            for rows in open_boards(height, width):
                self.play_out(rows)

    def test_drawn_boards(self):
        for rows in drawn_boards(162, 54):
            self.play_out(rows)


class BoardsTurnedOver(EndTests):
    def test_the_other_hand_can_win_there_by_the_cells_turned_over(self):
        for rows in [*open_boards(2, 3), *open_boards(1, 4), *drawn_boards(162, 55)]:
            board = Board(rows)
            over = turned_over(board)
            for hand in HANDS:
                self.assertIs(can_win(over, OTHER[hand]), can_win(board, hand), rows)
                turned = sorted((c, r) for r, c in replies(board, hand))
                self.assertEqual(replies(over, OTHER[hand]), turned, rows)

    def test_a_stone_more_never_takes_a_win(self):
        for rows in [*open_boards(2, 3), *drawn_boards(81, 56)]:
            for hand in HANDS:
                board = Board(rows)
                if can_win(board, hand):
                    for r, c in cells_of(rows):
                        after = laid(board, r, c, hand)
                        self.assertTrue(joined(after, hand) or can_win(after, hand), (rows, hand, r, c))


class NothingChangedNorKept(EndTests):
    def test_what_replies_tells_is_the_askers_own(self):
        for rows in (["..", ".."], ["."], [".n", ".."], ["..", "w."]):
            for hand in HANDS:
                board = Board(rows)
                told = replies(board, hand)
                asked = list(told)
                self.assertIsNot(told, replies(board, hand))
                told.reverse()
                told.append("junk")
                self.assertEqual(replies(board, hand), asked)
                self.assertIs(can_win(board, hand), asked != [])
                self.assertEqual(board.rows, rows)

    def test_the_list_handed_in_is_changed_afterwards(self):
        rows = ["..", ".."]
        board = Board(rows)
        rows[0] = "nn"
        self.assertEqual(replies(board, "w"), [(0, 1), (1, 0)])
        rows.clear()
        self.assertEqual(replies(board, "w"), [(0, 1), (1, 0)])

    def test_the_board_is_as_it_was_behind_each_call(self):
        for rows in drawn_boards(81, 57):
            board = Board(rows)
            kept = board.rows
            for hand in HANDS:
                can_win(board, hand)
                replies(board, hand)
            self.assertIs(board.rows, kept)
            self.assertEqual(board.rows, rows)
            self.assertEqual((board.height, board.width), (len(rows), len(rows[0])))


if __name__ == "__main__":
    unittest.main()
