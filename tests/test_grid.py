"""Points 2 and 18 and the interface of cornerplane/grid.py."""

import unittest

from cornerplane.grid import cells_of, corners_of, falling_pairs, neighbours, on_board, rising_pairs
from tests.oracles import board_corners, pairs_of_half

BOARDS = [(width, height) for width in range(9) for height in range(9)]


class CornersTest(unittest.TestCase):
    def test_corners_and_cells_of_a_small_board(self):
        self.assertEqual(corners_of((2, 1)), [(0, 0), (0, 1), (1, 0), (1, 1), (2, 0), (2, 1)])
        self.assertEqual(cells_of((2, 1)), [(0, 0), (1, 0)])
        self.assertEqual(cells_of((1, 2)), [(0, 0), (0, 1)])

    def test_boards_with_a_side_of_0(self):
        self.assertEqual(corners_of((0, 0)), [(0, 0)])
        self.assertEqual(corners_of((0, 2)), [(0, 0), (0, 1), (0, 2)])
        self.assertEqual(corners_of((2, 0)), [(0, 0), (1, 0), (2, 0)])
        for board in ((0, 0), (0, 8), (8, 0)):
            self.assertEqual(cells_of(board), [])
            self.assertEqual(rising_pairs(board), [])
            self.assertEqual(falling_pairs(board), [])

    def test_every_board_has_its_corners_and_cells_ascending(self):
        for board in BOARDS:
            width, height = board
            self.assertEqual(corners_of(board), board_corners(board))
            cells = cells_of(board)
            self.assertEqual(cells, sorted(set(cells)))
            self.assertEqual(len(cells), width * height)
            self.assertTrue(all(0 <= x < width and 0 <= y < height for x, y in cells))

    def test_on_board_takes_any_corner(self):
        for board in BOARDS:
            corners = set(board_corners(board))
            for x in range(-2, 12):
                for y in range(-2, 12):
                    self.assertIs(on_board(board, (x, y)), (x, y) in corners)
        self.assertIs(on_board((8, 8), (-1000, 4)), False)
        self.assertIs(on_board((8, 8), (4, 10 ** 30)), False)

    def test_neighbours(self):
        self.assertEqual(neighbours((2, 2), (1, 1)), [(0, 1), (1, 0), (1, 2), (2, 1)])
        self.assertEqual(neighbours((2, 2), (0, 0)), [(0, 1), (1, 0)])
        self.assertEqual(neighbours((2, 2), (2, 2)), [(1, 2), (2, 1)])
        self.assertEqual(neighbours((2, 2), (0, 1)), [(0, 0), (0, 2), (1, 1)])
        self.assertEqual(neighbours((0, 0), (0, 0)), [])
        self.assertEqual(neighbours((0, 2), (0, 1)), [(0, 0), (0, 2)])
        self.assertEqual(neighbours((2, 0), (2, 0)), [(1, 0)])

    def test_neighbours_are_one_unit_step_apart(self):
        for board in BOARDS:
            corners = board_corners(board)
            for corner in corners:
                near = [c for c in corners if abs(c[0] - corner[0]) + abs(c[1] - corner[1]) == 1]
                self.assertEqual(neighbours(board, corner), near)


class PairsTest(unittest.TestCase):
    def test_pairs_of_a_small_board(self):
        self.assertEqual(
            rising_pairs((2, 1)), [((0, 0), (1, 1)), ((0, 0), (2, 1)), ((1, 0), (2, 1))]
        )
        self.assertEqual(
            falling_pairs((2, 1)), [((0, 1), (1, 0)), ((0, 1), (2, 0)), ((1, 1), (2, 0))]
        )

    def test_pairs_of_every_board(self):
        for board in BOARDS:
            width, height = board
            count = width * (width + 1) // 2 * (height * (height + 1) // 2)
            self.assertEqual(len(rising_pairs(board)), count)
            self.assertEqual(len(falling_pairs(board)), count)
            self.assertEqual(rising_pairs(board), sorted(pairs_of_half(board, "rising")))
            self.assertEqual(falling_pairs(board), sorted(pairs_of_half(board, "falling")))
        self.assertEqual(len(rising_pairs((8, 8))), 1296)


class NewListsTest(unittest.TestCase):
    def test_a_change_to_a_result_changes_no_later_answer(self):
        questions = [
            lambda: corners_of((2, 2)),
            lambda: cells_of((2, 2)),
            lambda: neighbours((2, 2), (1, 1)),
            lambda: rising_pairs((2, 2)),
            lambda: falling_pairs((2, 2)),
        ]
        for ask in questions:
            first = ask()
            self.assertIsInstance(first, list)
            expected = list(first)
            first.clear()
            self.assertEqual(ask(), expected)


if __name__ == "__main__":
    unittest.main()
