"""Point 24 and the interface of cornerplane/symmetries.py."""

import unittest
from itertools import product

from cornerplane.planes import Plane
from cornerplane.symmetries import mirror_plane, swap_plane, turn_plane
from tests.oracles import board_corners
from tests.samples import some_plane

BOARDS = [(0, 0), (0, 4), (4, 0), (1, 1), (2, 1), (1, 2), (3, 2), (4, 4), (5, 3)]


def mirrored(board, corner):
    return (corner[0], board[1] - corner[1])


def turned(board, corner):
    return (board[0] - corner[0], board[1] - corner[1])


def swapped(board, corner):
    return (corner[1], corner[0])


KINDS = [(mirror_plane, mirrored), (turn_plane, turned), (swap_plane, swapped)]


class SymmetriesTest(unittest.TestCase):
    def test_small_planes(self):
        plane = Plane((2, 1), "EEN", "EEE")
        mirror, turn, swap = mirror_plane(plane), turn_plane(plane), swap_plane(plane)
        self.assertEqual((mirror.board, mirror.rising, mirror.falling), ((2, 1), "EEE", "EES"))
        self.assertEqual((turn.board, turn.rising, turn.falling), ((2, 1), "EEN", "SSS"))
        self.assertEqual((swap.board, swap.rising, swap.falling), ((1, 2), "NNE", "EEE"))

    def test_the_boards(self):
        for board in BOARDS:
            plane = some_plane(board, 1)
            self.assertEqual(mirror_plane(plane).board, board)
            self.assertEqual(turn_plane(plane).board, board)
            self.assertEqual(swap_plane(plane).board, (board[1], board[0]))

    def test_the_line_of_the_images_is_the_image_of_the_line(self):
        for board in BOARDS:
            plane = some_plane(board, 2)
            for change, image in KINDS:
                changed = change(plane)
                for p, q in product(board_corners(board), repeat=2):
                    expected = [image(board, corner) for corner in plane.line(p, q)]
                    self.assertEqual(changed.line(image(board, p), image(board, q)), expected)

    def test_doing_it_twice_gives_the_first_plane(self):
        for board in BOARDS:
            for seed in range(3):
                plane = some_plane(board, seed)
                for change, _ in KINDS:
                    twice = change(change(plane))
                    self.assertEqual(
                        (twice.board, twice.rising, twice.falling),
                        (plane.board, plane.rising, plane.falling),
                    )

    def test_the_plane_stays_as_it_was(self):
        plane = Plane((2, 1), "EEN", "SSE")
        for change, _ in KINDS:
            change(plane)
            self.assertEqual(
                (plane.board, plane.rising, plane.falling), ((2, 1), "EEN", "SSE")
            )


if __name__ == "__main__":
    unittest.main()
