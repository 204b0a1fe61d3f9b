"""Point 75 and the interface of cornerplane/rooms.py."""

import unittest
from itertools import combinations

from cornerplane.rooms import holes, room_pieces
from tests.oracles import board_corners, holes_of, pieces_of
from tests.samples import shuffled, solid_room, some_corners, some_rooms

BOARDS = [(2, 2), (3, 3), (4, 2), (8, 8), (0, 3), (3, 0), (0, 0)]
FRAME = [corner for corner in board_corners((2, 2)) if corner != (1, 1)]


def all_rooms(board):
    corners = board_corners(board)
    return [
        list(some) for count in range(len(corners) + 1) for some in combinations(corners, count)
    ]


class HolesTest(unittest.TestCase):
    def check(self, board, room):
        expected = holes_of(board, room)
        for given in (list(room), tuple(room), shuffled(room, 2)):
            self.assertEqual(holes(board, given), expected)
        return expected

    def test_small_rooms(self):
        self.assertEqual(holes((2, 2), FRAME), [[(1, 1)]])
        self.assertEqual(holes((2, 2), board_corners((2, 2))), [])
        self.assertEqual(holes((2, 2), []), [])
        self.assertEqual(holes((2, 2), [(1, 1)]), [])
        # A missing corner on the rim belongs to the outside.
        self.assertEqual(holes((2, 2), [corner for corner in FRAME if corner != (1, 0)]), [])

    def test_missing_corners_are_connected_across_a_corner(self):
        walls = [(1, 1), (2, 2)]
        room = [corner for corner in board_corners((4, 4)) if corner not in walls]
        self.assertEqual(holes((4, 4), room), [walls])
        # So a wall at a corner's distance from the rim is outside.
        walls = [(0, 1), (1, 2)]
        room = [corner for corner in board_corners((4, 4)) if corner not in walls]
        self.assertEqual(holes((4, 4), room), [])

    def test_two_holes_ascend_by_their_least_corners(self):
        walls = [(3, 1), (1, 3), (1, 2)]
        room = [corner for corner in board_corners((4, 4)) if corner not in walls]
        self.assertEqual(holes((4, 4), room), [[(1, 2), (1, 3)], [(3, 1)]])

    def test_a_hole_with_an_island_in_it(self):
        ring = [corner for corner in board_corners((6, 6)) if max(
            abs(corner[0] - 3), abs(corner[1] - 3)) == 1]
        room = [corner for corner in board_corners((6, 6)) if corner not in ring]
        self.assertEqual(holes((6, 6), room), [ring])

    def test_all_rooms_of_small_boards(self):
        for board in ((2, 2), (1, 2), (0, 3), (3, 0), (0, 0)):
            for room in all_rooms(board):
                self.check(board, room)

    def test_some_rooms(self):
        count = 0
        for board in BOARDS:
            for room in some_rooms(board):
                count += len(self.check(board, room))
            for seed in range(3):
                self.assertEqual(self.check(board, solid_room(board, seed)), [])
        self.assertGreater(count, 4)

    def test_some_walls_in_a_large_room(self):
        count = 0
        for seed in range(60):
            walls = some_corners((6, 6), seed, 0.1 + 0.005 * seed)
            room = [
                (x, y) for x, y in board_corners((8, 8)) if (x - 1, y - 1) not in walls
            ]
            count += len(self.check((8, 8), room))
        self.assertGreater(count, 200)

    def test_the_room_stays_and_results_are_new(self):
        room = list(FRAME)
        first = holes((2, 2), room)
        first[0].clear()
        first.clear()
        self.assertEqual(holes((2, 2), room), [[(1, 1)]])
        self.assertEqual(room, FRAME)


class RoomPiecesTest(unittest.TestCase):
    def check(self, room):
        expected = pieces_of(room)
        for given in (list(room), tuple(room), shuffled(room, 4)):
            self.assertEqual(room_pieces(given), expected)
        return expected

    def test_small_rooms(self):
        self.assertEqual(room_pieces([]), [])
        self.assertEqual(room_pieces(()), [])
        self.assertEqual(room_pieces([(1, 1), (1, 1)]), [[(1, 1)]])
        # Corners that are not one unit step apart are not connected.
        self.assertEqual(
            room_pieces([(1, 1), (0, 0), (2, 1)]), [[(0, 0)], [(1, 1), (2, 1)]]
        )
        self.assertEqual(room_pieces(FRAME), [sorted(FRAME)])

    def test_all_rooms_of_a_small_board(self):
        for room in all_rooms((2, 2)):
            self.check(room)

    def test_some_rooms(self):
        counts = set()
        for board in BOARDS:
            for room in some_rooms(board):
                counts.add(len(self.check(room)))
            self.assertEqual(len(self.check(solid_room(board, 1))), 1)
        self.assertGreater(max(counts), 3)

    def test_the_room_stays_and_results_are_new(self):
        room = [(2, 2), (0, 0), (2, 1), (0, 0)]
        first = room_pieces(room)
        first[0].clear()
        first.clear()
        self.assertEqual(room_pieces(room), [[(0, 0)], [(2, 1), (2, 2)]])
        self.assertEqual(room, [(2, 2), (0, 0), (2, 1), (0, 0)])


if __name__ == "__main__":
    unittest.main()
