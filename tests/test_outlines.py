"""Points 58 and 59 and the interface of cornerplane/outlines.py."""

import unittest
from itertools import combinations

from cornerplane.errors import OpenLoop
from cornerplane.outlines import outline, region_of_loops
from cornerplane.regions import Region
from tests.oracles import board_cells, board_corners, border_steps, closed_steps
from tests.samples import some_cells, some_chain

SQUARE = [(0, 0), (1, 0), (1, 1), (0, 1)]


def all_regions(board):
    cells = board_cells(board)
    return [
        list(some) for count in range(len(cells) + 1) for some in combinations(cells, count)
    ]


def step_to_the_left(arriving):
    (x, y), (u, v) = arriving
    return ((u, v), (u - (v - y), v + (u - x)))


class OutlineTest(unittest.TestCase):
    def check(self, cells):
        loops = outline(Region(cells))
        steps = border_steps(set(cells))
        walked = [step for loop in loops for step in closed_steps(loop)]
        self.assertEqual(len(walked), len(set(walked)))
        self.assertEqual(set(walked), steps)
        for loop in loops:
            self.assertIsInstance(loop, list)
            self.assertEqual(loop[0], min(loop))
            self.assertEqual(loop.count(loop[0]), 1)
            around = closed_steps(loop)
            for arriving, leaving in zip(around, around[1:] + around[:1]):
                away = [step for step in steps if step[0] == arriving[1]]
                if len(away) == 2:
                    self.assertEqual(leaving, step_to_the_left(arriving))
        firsts = [loop[0] for loop in loops]
        self.assertEqual(firsts, sorted(set(firsts)))
        return loops

    def test_the_example_of_the_interface(self):
        self.assertEqual(
            outline(Region([(0, 0), (1, 1)])),
            [[(0, 0), (1, 0), (1, 1), (0, 1)], [(1, 1), (2, 1), (2, 2), (1, 2)]],
        )

    def test_small_regions(self):
        self.assertEqual(outline(Region([])), [])
        self.assertEqual(outline(Region([(0, 0)])), [SQUARE])
        self.assertEqual(
            outline(Region([(3, 1), (4, 1)])),
            [[(3, 1), (4, 1), (5, 1), (5, 2), (4, 2), (3, 2)]],
        )
        self.assertEqual(
            outline(Region([(0, 1), (1, 0)])),
            [[(0, 1), (1, 1), (1, 2), (0, 2)], [(1, 0), (2, 0), (2, 1), (1, 1)]],
        )

    def test_a_hole_has_the_region_on_the_left(self):
        frame = [cell for cell in board_cells((3, 3)) if cell != (1, 1)]
        rim = [
            (0, 0), (1, 0), (2, 0), (3, 0), (3, 1), (3, 2), (3, 3), (2, 3), (1, 3), (0, 3),
            (0, 2), (0, 1),
        ]
        hole = [(1, 1), (1, 2), (2, 2), (2, 1)]
        self.assertEqual(outline(Region(frame)), [rim, hole])

    def test_two_holes_that_touch_are_one_loop(self):
        cells = [cell for cell in board_cells((4, 4)) if cell not in ((1, 1), (2, 2))]
        loops = self.check(cells)
        self.assertEqual(
            loops[1:], [[(1, 1), (1, 2), (2, 2), (2, 3), (3, 3), (3, 2), (2, 2), (2, 1)]]
        )

    def test_all_regions_of_small_boards(self):
        for board in ((1, 1), (2, 2), (3, 3), (4, 2), (2, 4), (0, 3), (3, 0), (0, 0)):
            for cells in all_regions(board):
                self.check(cells)

    def test_some_regions_of_the_largest_board(self):
        for seed in range(30):
            self.check(some_cells((8, 8), seed, 0.2 + 0.02 * seed))
        self.check(board_cells((8, 8)))
        self.check([cell for cell in board_cells((8, 8)) if sum(cell) % 2 == 0])

    def test_the_region_stays_and_results_are_new(self):
        region = Region([(0, 0), (1, 1)])
        first = outline(region)
        first[0].clear()
        first.clear()
        self.assertEqual([len(loop) for loop in outline(region)], [4, 4])
        self.assertEqual(region.cells, ((0, 0), (1, 1)))


class RegionOfLoopsTest(unittest.TestCase):
    def cells_of(self, loops):
        found = region_of_loops(loops)
        self.assertIsInstance(found, Region)
        self.assertEqual(region_of_loops(tuple(map(tuple, loops))).cells, found.cells)
        return list(found)

    def refused(self, loops, index):
        for given in (list(loops), tuple(map(tuple, loops))):
            with self.assertRaises(OpenLoop) as caught:
                region_of_loops(given)
            self.assertEqual(caught.exception.index, index)

    def test_small_loops(self):
        self.assertEqual(self.cells_of([]), [])
        self.assertEqual(self.cells_of([SQUARE]), [(0, 0)])
        self.assertEqual(self.cells_of([SQUARE[::-1]]), [(0, 0)])
        self.assertEqual(self.cells_of([SQUARE[2:] + SQUARE[:2]]), [(0, 0)])
        self.assertEqual(self.cells_of([SQUARE, SQUARE]), [])
        self.assertEqual(self.cells_of([SQUARE * 2]), [])
        self.assertEqual(self.cells_of([SQUARE * 3]), [(0, 0)])
        self.assertEqual(self.cells_of([SQUARE, SQUARE[::-1]]), [])
        self.assertEqual(self.cells_of([[(3, 4), (3, 5)]]), [])
        self.assertEqual(self.cells_of([[(3, 4), (2, 4), (3, 4), (3, 5)]]), [])

    def test_loops_by_a_count_of_their_steps(self):
        for seed in range(40):
            loops = [self.some_loop(seed + 70 * k) for k in range(seed % 4)]
            steps = [step for loop in loops for step in closed_steps(loop)]
            expected = []
            for x, y in board_cells((4, 4)):
                count = sum(
                    steps.count(((z, y), (z, y + 1))) + steps.count(((z, y + 1), (z, y)))
                    for z in range(x + 1, 5)
                )
                if count % 2 == 1:
                    expected.append((x, y))
            self.assertEqual(self.cells_of(loops), expected)

    def some_loop(self, seed):
        """A closed row of steps from corner to corner, first along and then across."""
        corners = some_chain((4, 4), seed, 5)
        row = []
        for (x, y), (u, v) in closed_steps(corners):
            row += [(k, y) for k in range(x, u, 1 if u > x else -1)]
            row += [(u, k) for k in range(y, v, 1 if v > y else -1)]
        return row or SQUARE

    def test_lists_that_are_no_loop(self):
        for bad in (
            [], [(0, 0)], [(0, 0), (0, 0)], [(0, 0), (1, 1)], [(0, 0), (1, 0), (1, 1)],
            [(0, 0), (2, 0), (2, 1), (0, 1)], SQUARE[:3], SQUARE + SQUARE[:1],
            SQUARE[:1] + SQUARE, [(0, 0), (1, 0), (0, 1)], [(0, 0), (1, 0), (1, 0), (0, 0)],
            SQUARE[:1] + SQUARE[2:], [(0, 0), (1, 0), (1, 1), (0, 1), (0, 2)],
        ):
            self.refused([bad], 0)
            self.refused([SQUARE, bad], 1)
            self.refused([SQUARE, SQUARE[::-1], bad, SQUARE, []], 2)
        self.refused([[], [(0, 0)]], 0)

    def test_the_outline_gives_the_region_back(self):
        for board in ((2, 2), (3, 3), (0, 3)):
            for cells in all_regions(board):
                self.assertEqual(self.cells_of(outline(Region(cells))), cells)
        for seed in range(30):
            cells = some_cells((8, 8), seed, 0.2 + 0.02 * seed)
            self.assertEqual(self.cells_of(outline(Region(cells))), cells)

    def test_the_loops_stay_as_they_were(self):
        loops = [list(SQUARE), list(SQUARE[::-1])]
        region = region_of_loops(loops[:1])
        region_of_loops(loops)
        self.assertEqual(loops, [SQUARE, SQUARE[::-1]])
        loops[0].clear()
        self.assertEqual(region.cells, ((0, 0),))

    def test_every_pair_of_corners(self):
        for a in board_corners((2, 2)):
            for b in board_corners((2, 2)):
                if abs(a[0] - b[0]) + abs(a[1] - b[1]) == 1:
                    self.assertEqual(self.cells_of([[a, b]]), [])
                else:
                    self.refused([[a, b]], 0)


if __name__ == "__main__":
    unittest.main()
