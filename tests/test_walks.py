"""Points 1, 6, 7 and 8 and the interface under shoreways/walks.py."""

import unittest

from helper import (
    CLIMBING,
    SMALL_FULL,
    SNAKE,
    all_rows,
    cells_of,
    exchanged,
    fault_of_road,
    fault_of_walk,
    is_joined,
    mixed_rows,
    only_cells,
    shore_places,
    with_stone,
)

from shoreways.boards import Board
from shoreways.errors import NotFull
from shoreways.roads import joined, road, winner
from shoreways.walks import walk

WINDING = (
    CLIMBING,
    SNAKE,
    exchanged(CLIMBING),
    exchanged(SNAKE),
    [row[::-1] for row in SNAKE],
    SNAKE[::-1],
    ["nw" * 4 + "n"] * 9,
    ["n" * 9, "w" * 9] * 4 + ["n" * 9],
)
PLAIN = tuple([hand * width] * height for hand in "nw" for height, width in ((1, 1), (1, 9), (9, 1), (9, 9)))


def many_full_boards():
    for height, width in SMALL_FULL:
        yield from all_rows(height, width, "nw")
    for seed, signs in ((31, "nw"), (32, "nw"), (33, "nnw"), (34, "wwn")):
        yield from mixed_rows(243, signs, seed)
    yield from WINDING
    yield from PLAIN


class ShorePlaces(unittest.TestCase):
    def met(self, height, width):
        """All shore places that stand in a pair of the walk of some full board of this size."""
        found = {}
        for rows in all_rows(height, width, "nw"):
            for pair in walk(Board(rows)):
                for place, hand in zip(pair, "nw"):
                    if place not in cells_of(rows):
                        found.setdefault(place, set()).add(hand)
        return found

    def test_each_one_is_met_and_is_its_hands(self):
        for height, width in ((1, 1), (1, 2), (2, 1), (1, 4), (4, 1), (2, 2), (2, 3), (3, 2), (3, 3)):
            asked = {place: {hand} for place, hand in shore_places(height, width).items()}
            # At the far corner another border ends, which is never the walk's.
            del asked[(height, width - 1)]
            if height > 1:
                del asked[(height - 1, width)]
            with self.subTest(height=height, width=width):
                self.assertEqual(self.met(height, width), asked)


class Walks(unittest.TestCase):
    def test_one_cell(self):
        self.assertEqual(walk(Board(["n"])), [((-1, 0), (0, -1)), ((0, 0), (0, -1)), ((1, -1), (0, -1))])
        self.assertEqual(
            walk(Board(["w"])),
            [((-1, 0), (0, -1)), ((-1, 0), (0, 0)), ((-1, 1), (0, 0)), ((-1, 1), (0, 1))],
        )

    def test_four_cells(self):
        self.assertEqual(
            walk(Board(["nw", "wn"])),
            [
                ((-1, 0), (0, -1)),
                ((0, 0), (0, -1)),
                ((0, 0), (1, -1)),
                ((0, 0), (1, 0)),
                ((0, 0), (0, 1)),
                ((-1, 1), (0, 1)),
                ((-1, 2), (0, 1)),
                ((-1, 2), (0, 2)),
            ],
        )

    def test_straight_along_the_shores(self):
        down = [((-1, 0), (0, -1))]
        for r in range(9):
            down += [((r, 0), (r, -1)), ((r, 0), (r + 1, -1))]
        down[-1] = ((9, -1), (8, -1))
        self.assertEqual(walk(Board(["n" * 9] * 9)), down)
        self.assertEqual(walk(Board(["n"] * 9)), down)
        along = [((-1, 0), (0, -1))]
        for c in range(9):
            along += [((-1, c), (0, c)), ((-1, c + 1), (0, c))]
        along.append(((-1, 9), (0, 9)))
        self.assertEqual(walk(Board(["w" * 9] * 9)), along)
        self.assertEqual(walk(Board(["w" * 9])), along)

    def test_many_full_boards_pair_by_pair(self):
        for rows in many_full_boards():
            told = walk(Board(rows))
            self.assertIsNone(fault_of_walk(rows, told), (rows, told))

    def test_all_boards_of_one_row_or_one_column_of_nine(self):
        for height, width in ((1, 9), (9, 1)):
            for rows in all_rows(height, width, "nw"):
                self.assertIsNone(fault_of_walk(rows, walk(Board(rows))), rows)

    def test_some_walks_are_long(self):
        self.assertGreater(len(walk(Board(SNAKE))), 70)
        self.assertGreater(len(walk(Board(exchanged(SNAKE)))), 70)


class EndsOfWalks(unittest.TestCase):
    def test_no_pair_comes_twice(self):
        for rows in many_full_boards():
            told = walk(Board(rows))
            self.assertEqual(len(set(told)), len(told), rows)

    def test_the_last_pair_tells_who_is_joined(self):
        told = {"n": 0, "w": 0}
        for rows in many_full_boards():
            board = Board(rows)
            last = walk(board)[-1]
            is_west_end = last == ((-1, board.width), (0, board.width))
            is_north_end = last == ((board.height, -1), (board.height - 1, -1))
            self.assertIs(is_west_end, joined(board, "w"), rows)
            self.assertIs(is_north_end, joined(board, "n"), rows)
            self.assertIs(is_north_end, is_joined(rows, "n"), rows)
            self.assertEqual(winner(board), "w" if is_west_end else "n", rows)
            told[winner(board)] += 1
        self.assertGreater(min(told.values()), 1000)

    def test_a_road_goes_through_cells_of_the_pairs(self):
        for rows in many_full_boards():
            board = Board(rows)
            hand = winner(board)
            walked = only_cells(rows, {place for pair in walk(board) for place in pair})
            self.assertTrue(is_joined(walked, hand), (rows, walked))
            self.assertIsNone(fault_of_road(rows, hand, road(Board(walked), hand)), (rows, walked))


class NotFullBoards(unittest.TestCase):
    def refused(self, rows):
        board = Board(rows)
        with self.assertRaises(NotFull):
            walk(board)
        self.assertEqual(board.rows, rows)

    def test_one_empty_cell_wherever_it_lies(self):
        for rows in WINDING + PLAIN + (["nw", "wn"], ["wn", "nw"]):
            for r, c in cells_of(rows):
                self.refused(with_stone(rows, r, c, "."))

    def test_all_small_boards_with_empty_cells(self):
        for height, width in ((1, 1), (1, 4), (4, 1), (2, 2), (2, 3), (3, 2)):
            for rows in all_rows(height, width, "nw."):
                if "." in "".join(rows):
                    self.refused(rows)

    def test_empty_boards(self):
        for height, width in ((1, 1), (1, 9), (9, 1), (9, 9)):
            self.refused(["." * width] * height)


class NothingChangedNorKept(unittest.TestCase):
    def test_what_walk_tells_is_the_askers_own(self):
        for rows in WINDING + PLAIN:
            board = Board(rows)
            told = walk(board)
            asked = list(told)
            self.assertIsNot(told, walk(board))
            told.reverse()
            told.append("junk")
            self.assertEqual(walk(board), asked)
            told.clear()
            self.assertEqual(walk(Board(rows)), asked)

    def test_the_list_handed_in_is_changed_afterwards(self):
        rows = ["nw", "wn"]
        board = Board(rows)
        asked = walk(Board(["nw", "wn"]))
        rows[0] = "nn"
        self.assertEqual(walk(board), asked)
        rows.clear()
        self.assertEqual(walk(board), asked)

    def test_the_board_is_as_it_was_behind_each_call(self):
        for rows in mixed_rows(81, "nw", 35):
            board = Board(rows)
            kept = board.rows
            walk(board)
            self.assertIs(board.rows, kept)
            self.assertEqual(board.rows, rows)
            self.assertEqual((board.height, board.width), (len(rows), len(rows[0])))


if __name__ == "__main__":
    unittest.main()
