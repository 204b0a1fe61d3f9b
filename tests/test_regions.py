"""Points 55 to 57 and the interface of cornerplane/regions.py."""

import random
import unittest

from cornerplane.planes import Plane
from cornerplane.regions import Region, paint, pieces
from cornerplane.windings import windings
from tests.oracles import board_cells, side_groups, walk_steps, winding_number
from tests.samples import some_cells, some_chain, some_plane

BOARDS = [(1, 1), (2, 1), (3, 2), (8, 8), (0, 3), (3, 0), (0, 0)]
SQUARE = [(0, 0), (1, 0), (1, 1), (0, 1)]
PLANE = Plane((2, 2), "E" * 9, "E" * 9)


class RegionTest(unittest.TestCase):
    def test_the_cells_ascending_without_duplicates(self):
        self.assertEqual(Region([(1, 0), (0, 1), (1, 0)]).cells, ((0, 1), (1, 0)))
        self.assertEqual(Region(((2, 1), (0, 5), (2, 0))).cells, ((0, 5), (2, 0), (2, 1)))
        for cells in ([], ()):
            self.assertEqual(Region(cells).cells, ())

    def test_iteration_length_and_membership(self):
        for board in BOARDS:
            for seed in range(6):
                cells = some_cells(board, seed)
                given = cells * 3
                random.Random(seed).shuffle(given)
                region = Region(given)
                self.assertEqual(list(region), cells)
                self.assertEqual([cell for cell in region], list(region.cells))
                self.assertEqual(len(region), len(cells))
                for cell in board_cells(board) + [(-1, 0), (9, 9)]:
                    self.assertIs(cell in region, cell in cells)

    def test_the_operators(self):
        a = Region([(0, 0), (1, 0), (1, 1)])
        b = Region([(1, 1), (0, 1), (1, 0)])
        self.assertEqual((a | b).cells, ((0, 0), (0, 1), (1, 0), (1, 1)))
        self.assertEqual((a & b).cells, ((1, 0), (1, 1)))
        self.assertEqual((a - b).cells, ((0, 0),))
        self.assertEqual((b - a).cells, ((0, 1),))
        self.assertEqual((a ^ b).cells, ((0, 0), (0, 1)))

    def test_the_operators_between_any_regions(self):
        for board in BOARDS:
            for seed in range(8):
                one = some_cells(board, seed, 0.1 * seed)
                other = some_cells(board, seed + 30)
                a, b = Region(one), Region(other)
                for found, expected in (
                    (a | b, set(one) | set(other)), (a & b, set(one) & set(other)),
                    (a - b, set(one) - set(other)), (a ^ b, set(one) ^ set(other)),
                    (a | a, set(one)), (a & a, set(one)), (a - a, set()), (a ^ a, set()),
                ):
                    self.assertIsInstance(found, Region)
                    self.assertEqual(found.cells, tuple(sorted(expected)))
                self.assertEqual((a.cells, b.cells), (tuple(one), tuple(other)))

    def test_a_later_change_to_the_list_changes_nothing(self):
        cells = [(1, 1), (0, 0)]
        region = Region(cells)
        self.assertEqual(cells, [(1, 1), (0, 0)])
        cells.append((2, 2))
        self.assertEqual(region.cells, ((0, 0), (1, 1)))
        list(region).clear()
        self.assertEqual(len(region), 2)


class PaintTest(unittest.TestCase):
    def test_odd_winding_numbers(self):
        self.assertEqual(paint(PLANE, [SQUARE]).cells, ((0, 0),))
        self.assertEqual(paint(PLANE, [SQUARE[::-1]]).cells, ((0, 0),))
        self.assertEqual(paint(PLANE, [SQUARE * 2]).cells, ())
        self.assertEqual(paint(PLANE, [SQUARE * 3]).cells, ((0, 0),))
        self.assertEqual(paint(PLANE, [(SQUARE * 3)[::-1]]).cells, ((0, 0),))
        self.assertEqual(paint(PLANE, [SQUARE, SQUARE]).cells, ())
        self.assertEqual(paint(PLANE, [SQUARE, SQUARE[::-1]]).cells, ())

    def test_nothing_to_paint(self):
        for chains in ([], (), [[(1, 1)]], [[(1, 1)] * 4], [[(0, 0), (2, 2)]]):
            found = paint(PLANE, chains)
            self.assertIsInstance(found, Region)
            self.assertEqual(found.cells, ())

    def test_a_frame_has_a_hole(self):
        plane = Plane((3, 3), "E" * 36, "E" * 36)
        rim = [(0, 0), (3, 0), (3, 3), (0, 3)]
        hole = [(1, 1), (2, 1), (2, 2), (1, 2)]
        frame = tuple(cell for cell in board_cells((3, 3)) if cell != (1, 1))
        self.assertEqual(paint(plane, [rim, hole]).cells, frame)
        self.assertEqual(paint(plane, (tuple(rim), tuple(hole[::-1]))).cells, frame)

    def test_some_chains(self):
        for board in BOARDS:
            for seed in range(10):
                plane = some_plane(board, seed)
                chains = [some_chain(board, seed + k, 1 + 2 * seed) for k in range(seed % 4)]
                walks = [walk_steps(plane, chain) for chain in chains]
                expected = [
                    cell for cell in board_cells(board)
                    if sum(winding_number(walk, cell) for walk in walks) % 2 == 1
                ]
                self.assertEqual(list(paint(plane, chains)), expected)
                self.assertEqual(list(paint(plane, tuple(map(tuple, chains)))), expected)

    def test_two_lists_together(self):
        for seed in range(20):
            plane = some_plane((4, 4), seed)
            one = [some_chain((4, 4), seed + k, 7) for k in range(2)]
            other = [some_chain((4, 4), seed + k, 5) for k in range(5, 8)]
            together = paint(plane, one + other)
            self.assertEqual((paint(plane, one) ^ paint(plane, other)).cells, together.cells)

    def test_the_chains_stay_as_they_were(self):
        chains = [list(SQUARE)]
        self.assertEqual(paint(PLANE, chains).cells, paint(PLANE, chains).cells)
        self.assertEqual(chains, [SQUARE])
        self.assertEqual(windings(PLANE, chains[0]), [((0, 0), 1)])


class PiecesTest(unittest.TestCase):
    def cells_of_pieces(self, cells):
        found = pieces(Region(cells))
        self.assertIsInstance(found, list)
        for piece in found:
            self.assertIsInstance(piece, Region)
        return [list(piece) for piece in found]

    def test_small_regions(self):
        self.assertEqual(self.cells_of_pieces([]), [])
        self.assertEqual(self.cells_of_pieces([(3, 3)]), [[(3, 3)]])
        self.assertEqual(self.cells_of_pieces([(0, 0), (1, 0)]), [[(0, 0), (1, 0)]])
        self.assertEqual(self.cells_of_pieces([(0, 1), (0, 0)]), [[(0, 0), (0, 1)]])
        # Cells that touch at a corner only are not connected.
        self.assertEqual(self.cells_of_pieces([(0, 0), (1, 1)]), [[(0, 0)], [(1, 1)]])
        self.assertEqual(self.cells_of_pieces([(0, 1), (1, 0)]), [[(0, 1)], [(1, 0)]])
        self.assertEqual(
            self.cells_of_pieces([(0, 1), (1, 0), (2, 1), (1, 2), (2, 0)]),
            [[(0, 1)], [(1, 0), (2, 0), (2, 1)], [(1, 2)]],
        )

    def test_a_ring_around_a_piece(self):
        ring = [cell for cell in board_cells((5, 5)) if min(cell) == 0 or max(cell) == 4]
        self.assertEqual(self.cells_of_pieces(ring + [(2, 2)]), [sorted(ring), [(2, 2)]])

    def test_some_regions(self):
        for board in BOARDS:
            for seed in range(12):
                cells = some_cells(board, seed, 0.3 + 0.05 * (seed % 8))
                self.assertEqual(self.cells_of_pieces(cells), side_groups(cells))

    def test_the_region_stays_and_results_are_new(self):
        region = Region([(0, 0), (1, 1)])
        pieces(region).clear()
        self.assertEqual([piece.cells for piece in pieces(region)], [((0, 0),), ((1, 1),)])
        self.assertEqual(region.cells, ((0, 0), (1, 1)))


if __name__ == "__main__":
    unittest.main()
