"""The interface under shoreways/errors.py, and each refusal met through the interface."""

import unittest

from shoreways.boards import Board, laid, sign
from shoreways.ends import can_win, replies
from shoreways.errors import BadBoard, NoCell, NoStone, NotFull, Over, ShoreError, Taken, TooMany
from shoreways.games import Game
from shoreways.roads import winner
from shoreways.walks import walk

REFUSALS = (BadBoard, NoCell, NotFull, Taken, Over, NoStone, TooMany)


def game_with(height, width, cells):
    game = Game(height, width)
    for r, c in cells:
        game.play(r, c)
    return game


MET = (
    (BadBoard, lambda: Board([])),
    (BadBoard, lambda: Board(["nx"])),
    (BadBoard, lambda: Game(0, 1)),
    (BadBoard, lambda: Game(9, 10)),
    (NoCell, lambda: sign(Board(["n"]), 0, 1)),
    (NoCell, lambda: laid(Board(["n"]), -1, 0, "w")),
    (NoCell, lambda: Game(2, 2).play(2, 0)),
    (NotFull, lambda: winner(Board(["n."]))),
    (NotFull, lambda: walk(Board(["n."]))),
    (Taken, lambda: game_with(2, 2, [(0, 0)]).play(0, 0)),
    (Over, lambda: game_with(1, 2, [(0, 0)]).play(0, 1)),
    (Over, lambda: can_win(Board(["n."]), "w")),
    (Over, lambda: replies(Board(["n."]), "n")),
    (NoStone, lambda: Game(1, 1).back()),
    (TooMany, lambda: can_win(Board(["......."]), "n")),
    (TooMany, lambda: replies(Board(["......."]), "w")),
)


class Errors(unittest.TestCase):
    def test_shore_error_is_a_value_error(self):
        self.assertEqual(ShoreError.__bases__, (ValueError,))

    def test_each_refusal_stands_under_shore_error_alone(self):
        for refusal in REFUSALS:
            with self.subTest(refusal=refusal.__name__):
                self.assertEqual(refusal.__bases__, (ShoreError,))
                self.assertTrue(issubclass(refusal, ValueError))

    def test_no_refusal_is_one_of_the_others(self):
        self.assertEqual(len(set(REFUSALS)), 7)
        for refusal in REFUSALS:
            for other in REFUSALS:
                if other is not refusal:
                    with self.subTest(refusal=refusal.__name__, other=other.__name__):
                        self.assertFalse(issubclass(refusal, other))

    def test_each_refusal_is_raised_with_words_and_taken_by_each_of_its_names(self):
        for refusal in REFUSALS:
            for name in (refusal, ShoreError, ValueError):
                with self.subTest(refusal=refusal.__name__, name=name.__name__):
                    with self.assertRaises(name) as taken:
                        raise refusal("some words")
                    self.assertIs(type(taken.exception), refusal)
                    self.assertEqual(str(taken.exception), "some words")

    def test_each_refusal_is_met_through_the_interface(self):
        self.assertEqual({refusal for refusal, deed in MET}, set(REFUSALS))
        for number, (refusal, deed) in enumerate(MET):
            for name in (refusal, ShoreError, ValueError):
                with self.subTest(number=number, refusal=refusal.__name__, name=name.__name__):
                    with self.assertRaises(name) as taken:
                        deed()
                    self.assertIs(type(taken.exception), refusal)
                    self.assertEqual([one for one in REFUSALS if isinstance(taken.exception, one)], [refusal])


if __name__ == "__main__":
    unittest.main()
