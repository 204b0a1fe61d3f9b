"""Points 60 and 61 and the interface of cornerplane/chains.py."""

import unittest
from itertools import combinations, product

from cornerplane.chains import is_least_marks, least_chain, least_marks, trace
from cornerplane.outlines import outline
from cornerplane.planes import Plane
from cornerplane.rankings import ranked_plane, ruler_ranking
from cornerplane.regions import Region, paint
from cornerplane.windings import closed_walk
from tests.oracles import board_cells
from tests.samples import some_cells, some_plane, some_rankings

EAST = Plane((2, 2), "E" * 9, "E" * 9)
SQUARE = [(0, 0), (1, 0), (1, 1), (0, 1)]
WHOLE = [(0, 0), (1, 0), (2, 0), (2, 1), (2, 2), (1, 2), (0, 2), (0, 1)]


def is_line(plane, loop, a, b):
    part = [loop[k % len(loop)] for k in range(a, b + 1)]
    return part == plane.line(part[0], part[-1])


def are_marks(plane, loop, marks):
    ends = [*marks, len(loop)]
    return (
        list(marks[:1]) == [0]
        and ends == sorted(set(ends))
        and all(is_line(plane, loop, a, b) for a, b in zip(ends, ends[1:]))
    )


def farthest_marks(plane, loop):
    """The greedy marks, each found by trying every later position."""
    marks, at = [], 0
    while at < len(loop):
        marks.append(at)
        at = max(b for b in range(at + 1, len(loop) + 1) if is_line(plane, loop, at, b))
    return marks


def some_loops():
    for board in ((2, 2), (3, 3), (4, 2), (8, 8)):
        for seed in range(6):
            plane = some_plane(board, seed)
            if seed == 4:
                plane = ranked_plane(board, *some_rankings(board, seed))
            if seed == 5:
                ruler = ruler_ranking(sum(board))
                plane = ranked_plane(board, ruler, ruler)
            for share in (0.3, 0.6, 0.9):
                for loop in outline(Region(some_cells(board, seed, share))):
                    yield plane, loop


class LeastMarksTest(unittest.TestCase):
    def test_small_loops(self):
        # From (0, 0) the line goes on to (1, 1), and from there west and south only one step.
        plane = Plane((1, 1), "E", "E")
        self.assertEqual(least_marks(plane, SQUARE), [0, 2, 3])
        self.assertEqual(least_marks(Plane((1, 1), "N", "E"), SQUARE), [0, 1, 3])
        self.assertEqual(least_marks(EAST, WHOLE), [0, 4, 6])
        self.assertEqual(least_chain(EAST, WHOLE), [(0, 0), (2, 2), (0, 2)])
        self.assertEqual(least_chain(Plane((1, 1), "N", "E"), SQUARE), [(0, 0), (1, 0), (0, 1)])

    def test_the_farthest_position_comes_next(self):
        count = 0
        for plane, loop in some_loops():
            expected = farthest_marks(plane, loop)
            for given in (list(loop), tuple(loop)):
                self.assertEqual(least_marks(plane, given), expected)
                self.assertEqual(least_chain(plane, given), [loop[k] for k in expected])
            count += len(expected) > 4
        self.assertGreater(count, 20)

    def test_no_marks_are_fewer(self):
        for plane, loop in some_loops():
            least = least_marks(plane, loop)
            self.assertTrue(are_marks(plane, loop, least))
            # The fewest parts up to each position.
            fewest = [0]
            for b in range(1, len(loop) + 1):
                parts = [fewest[a] for a in range(b) if is_line(plane, loop, a, b)]
                fewest.append(1 + min(parts))
            self.assertEqual(len(least), fewest[-1])

    def test_the_chain_walks_the_loop(self):
        for plane, loop in some_loops():
            self.assertEqual(closed_walk(plane, least_chain(plane, loop)), loop)


class IsLeastMarksTest(unittest.TestCase):
    def test_exactly_the_least_marks_are_accepted(self):
        accepted = 0
        for plane, loop in some_loops():
            if len(loop) > 12:
                continue
            for count in range(len(loop) + 1):
                for marks in combinations(range(len(loop)), count):
                    good = are_marks(plane, loop, marks) and not any(
                        is_line(plane, loop, a, b + 1) for a, b in zip(marks, marks[1:])
                    )
                    accepted += good
                    for given in (list(marks), marks):
                        self.assertIs(is_least_marks(plane, loop, given), good)
                        self.assertIs(is_least_marks(plane, tuple(loop), given), good)
        self.assertGreater(accepted, 30)

    def test_the_least_marks_of_every_loop_are_accepted(self):
        for plane, loop in some_loops():
            self.assertIs(is_least_marks(plane, loop, least_marks(plane, loop)), True)

    def test_lists_that_are_no_marks(self):
        self.assertIs(is_least_marks(EAST, WHOLE, [0, 4, 6]), True)
        for marks in (
            [], [4, 6], [0], [0, 4], [0, 6], [0, 5, 6], [0, 4, 6, 8], [0, 4, 6, 9],
            [0, 4, 6, 10 ** 30], [-1, 4, 6], [-8, 4, 6], [0, -4, 6], [0, 4, -2], [0, 0, 4, 6],
            [0, 4, 4, 6], [0, 4, 6, 6], [0, 6, 4], [4, 0, 6], [6, 4, 0], [8], [-10 ** 30, 0],
            [0, 4, 6, 0], [1, 4, 6], [0, 4, 6, -1], [-1, 0, 4, 6], [0, 8],
        ):
            self.assertIs(is_least_marks(EAST, WHOLE, marks), False)
            self.assertIs(is_least_marks(EAST, WHOLE, tuple(marks)), False)

    def test_marks_that_are_not_the_least_ones(self):
        self.assertTrue(are_marks(EAST, WHOLE, [0, 3, 4, 6]))
        for marks in (
            [0, 3, 4, 6], [0, 4, 5, 6], [0, 2, 4, 6], list(range(8)), [0, 1, 4, 6], [0, 4, 5, 7],
        ):
            self.assertIs(is_least_marks(EAST, WHOLE, marks), False)
        # Behind the last mark, nothing asks how far the part could go.
        self.assertIs(is_least_marks(EAST, WHOLE, [0, 4, 6, 7]), False)

    def test_every_short_row_of_numbers(self):
        plane = Plane((1, 1), "E", "S")
        for count in range(5):
            for marks in product(range(-2, 7), repeat=count):
                good = are_marks(plane, SQUARE, marks) and not any(
                    is_line(plane, SQUARE, a, b + 1) for a, b in zip(marks, marks[1:])
                )
                self.assertIs(is_least_marks(plane, SQUARE, list(marks)), good)


class TraceTest(unittest.TestCase):
    def test_small_regions(self):
        self.assertEqual(trace(EAST, Region([])), [])
        self.assertEqual(
            trace(EAST, Region([(0, 0), (1, 1)])),
            [[(0, 0), (1, 1), (0, 1)], [(1, 1), (2, 2), (1, 2)]],
        )
        self.assertEqual(trace(EAST, Region(board_cells((2, 2)))), [[(0, 0), (2, 2), (0, 2)]])

    def test_the_least_chains_of_the_loops_in_order(self):
        for board in ((3, 3), (8, 8), (0, 2)):
            for seed in range(8):
                plane = some_plane(board, seed)
                region = Region(some_cells(board, seed, 0.6))
                expected = [least_chain(plane, loop) for loop in outline(region)]
                self.assertEqual(trace(plane, region), expected)

    def test_painting_the_chains_gives_the_region(self):
        for board in ((1, 1), (3, 3), (8, 8), (5, 2), (0, 3), (3, 0), (0, 0)):
            for seed in range(12):
                plane = some_plane(board, seed)
                region = Region(some_cells(board, seed + 3, 0.1 + 0.07 * seed))
                self.assertEqual(paint(plane, trace(plane, region)).cells, region.cells)


class ArgumentsTest(unittest.TestCase):
    def test_arguments_stay_as_they_were_and_results_are_new(self):
        loop, marks, region = list(WHOLE), [0, 4, 6], Region(board_cells((2, 2)))
        for ask in (
            lambda: least_marks(EAST, loop),
            lambda: least_chain(EAST, loop),
            lambda: trace(EAST, region),
            lambda: trace(EAST, region)[0],
        ):
            first = ask()
            expected = list(first)
            self.assertTrue(expected)
            first.clear()
            self.assertEqual(ask(), expected)
        is_least_marks(EAST, loop, marks)
        self.assertEqual((loop, marks), (WHOLE, [0, 4, 6]))
        self.assertEqual(len(region), 4)


if __name__ == "__main__":
    unittest.main()
