"""Points 48 to 50 and the interface of cornerplane/triangles.py."""

import unittest
from itertools import product

from cornerplane.planes import Plane
from cornerplane.triangles import Triangle, fan
from cornerplane.windings import windings
from tests.oracles import board_cells, board_corners, walk_steps, winding_entries
from tests.samples import some_chain, some_plane

BOARDS = [(1, 1), (2, 1), (1, 2), (2, 2), (3, 1), (0, 3), (3, 0), (0, 0)]


def told(triangle):
    return (
        triangle.ends, triangle.knees, triangle.meeting, triangle.sign, triangle.cells,
        triangle.corners,
    )


def knee(plane, p, q, r):
    """Walk along both lines as long as they are the same."""
    at = p
    for a, b in zip(plane.line(p, q), plane.line(p, r)):
        if a != b:
            break
        at = a
    return at


def expected_triangle(plane, p, q, r):
    lines = [plane.line(p, q), plane.line(q, r), plane.line(r, p)]
    common = set(lines[0]) & set(lines[1]) & set(lines[2])
    entries = winding_entries(plane.board, walk_steps(plane, [p, q, r]))
    inside = {cell for cell, _ in entries}
    corners = set(lines[0]) | set(lines[1]) | set(lines[2])
    for x, y in board_corners(plane.board):
        if {(x - 1, y - 1), (x - 1, y), (x, y - 1), (x, y)} <= inside:
            corners.add((x, y))
    return (
        (p, q, r),
        (knee(plane, p, q, r), knee(plane, q, r, p), knee(plane, r, p, q)),
        min(common) if common else None,
        entries[0][1] if entries else 0,
        tuple(sorted(inside)),
        tuple(sorted(corners)),
    )


class TriangleTest(unittest.TestCase):
    def test_the_examples_of_the_interface(self):
        plane = Plane((1, 1), "E", "E")
        flat = Triangle(plane, (0, 0), (1, 0), (1, 1))
        self.assertEqual((flat.meeting, flat.sign, flat.cells), ((1, 0), 0, ()))
        full = Triangle(plane, (0, 0), (1, 0), (0, 1))
        self.assertEqual((full.meeting, full.sign, full.cells), (None, 1, ((0, 0),)))
        self.assertEqual(flat.knees, ((1, 0), (1, 0), (1, 0)))
        self.assertEqual(full.knees, ((0, 0), (1, 0), (0, 1)))
        self.assertEqual((flat.area, full.area), (0, 1))
        self.assertEqual(flat.corners, ((0, 0), (1, 0), (1, 1)))
        self.assertEqual(full.corners, ((0, 0), (0, 1), (1, 0), (1, 1)))

    def test_the_other_way_round(self):
        plane = Plane((1, 1), "E", "E")
        full = Triangle(plane, (0, 0), (0, 1), (1, 0))
        self.assertEqual((full.sign, full.cells, full.area), (-1, ((0, 0),), -1))

    def test_equal_corners(self):
        plane = some_plane((3, 2), 2)
        for p, q in product(board_corners((3, 2)), repeat=2):
            for ends in ((p, p, q), (p, q, p), (q, p, p)):
                triangle = Triangle(plane, *ends)
                self.assertEqual(triangle.ends, ends)
                self.assertEqual((triangle.knees, triangle.meeting), ((p, p, p), p))
                self.assertEqual((triangle.sign, triangle.cells, triangle.area), (0, (), 0))
                self.assertEqual(triangle.corners, tuple(sorted(plane.line(p, q))))

    def test_a_core_with_corners_inside_and_lines_that_lead_to_it(self):
        plane = Plane((4, 4), "E" * 100, "S" * 100)
        triangle = Triangle(plane, (0, 1), (3, 1), (0, 4))
        self.assertEqual(triangle.knees, ((0, 1), (0, 1), (0, 1)))
        plane = Plane((4, 4), "E" * 100, "E" * 100)
        triangle = Triangle(plane, (0, 1), (3, 1), (0, 4))
        self.assertEqual(triangle.cells, tuple(product(range(3), range(1, 4))))
        self.assertEqual(triangle.corners, tuple(product(range(4), range(1, 5))))
        self.assertEqual((triangle.sign, triangle.area, triangle.meeting), (1, 9, None))
        triangle = Triangle(plane, (0, 4), (4, 1), (0, 1))
        self.assertEqual(triangle.knees, ((0, 4), (4, 1), (0, 1)))
        triangle = Triangle(plane, (0, 0), (3, 1), (0, 4))
        self.assertEqual(triangle.knees, ((0, 0), (3, 1), (0, 4)))
        triangle = Triangle(plane, (4, 0), (0, 2), (4, 4))
        self.assertEqual(triangle.knees, ((4, 2), (4, 2), (4, 2)))
        self.assertEqual((triangle.meeting, triangle.area), ((4, 2), 0))

    def test_all_triangles_of_small_boards(self):
        for board in BOARDS:
            for seed in range(3):
                plane = some_plane(board, seed)
                for p, q, r in product(board_corners(board), repeat=3):
                    self.assertEqual(
                        told(Triangle(plane, p, q, r)), expected_triangle(plane, p, q, r)
                    )

    def test_some_triangles_of_larger_boards(self):
        inner = 0
        for board in ((4, 4), (8, 8), (3, 7)):
            for seed in range(3):
                plane = some_plane(board, seed)
                for k in range(60):
                    p, q, r = some_chain(board, 100 * seed + k, 3)
                    triangle = Triangle(plane, p, q, r)
                    self.assertEqual(told(triangle), expected_triangle(plane, p, q, r))
                    self.check_meeting_or_core(plane, triangle)
                    lines = plane.line(p, q) + plane.line(q, r) + plane.line(r, p)
                    inner += len(triangle.corners) > len(set(lines))
        self.assertGreater(inner, 5)

    def check_meeting_or_core(self, plane, triangle):
        p, q, r = triangle.ends
        one, two, three = triangle.knees
        if triangle.meeting is not None:
            self.assertEqual(triangle.knees, (triangle.meeting,) * 3)
            self.assertEqual((triangle.sign, triangle.cells), (0, ()))
            return
        core = plane.line(one, two)[:-1] + plane.line(two, three)[:-1] + plane.line(three, one)[:-1]
        self.assertEqual(len(set(core)), len(core))
        self.assertIn(triangle.sign, (1, -1))
        self.assertEqual(
            windings(plane, [one, two, three]), [(cell, triangle.sign) for cell in triangle.cells]
        )

    def test_the_area(self):
        for seed in range(4):
            plane = some_plane((5, 4), seed)
            for k in range(40):
                triangle = Triangle(plane, *some_chain((5, 4), k, 3))
                numbers = [number for _, number in windings(plane, list(triangle.ends))]
                self.assertEqual(triangle.area, sum(numbers))

    def test_corner_in_triangle(self):
        for seed in range(4):
            plane = some_plane((5, 4), seed)
            for k in range(20):
                triangle = Triangle(plane, *some_chain((5, 4), k, 3))
                for corner in product(range(-1, 7), repeat=2):
                    self.assertIs(corner in triangle, corner in triangle.corners)

    def test_the_kinds_of_the_attributes(self):
        for ends in (((0, 0), (0, 0), (0, 0)), ((0, 0), (2, 0), (0, 2))):
            triangle = Triangle(some_plane((2, 2), 1), *ends)
            for part in (triangle.ends, triangle.knees, triangle.cells, triangle.corners):
                self.assertIsInstance(part, tuple)
        self.assertIsInstance(vars(Triangle)["area"], property)


class FanTest(unittest.TestCase):
    def test_the_triangles_in_order(self):
        a, b, c, hub = (0, 0), (2, 0), (2, 1), (0, 1)
        expected = [(hub, a, b), (hub, b, c), (hub, c, a)]
        self.assertEqual(fan(hub, [a, b, c]), expected)
        self.assertEqual(fan(hub, (a, b, c)), expected)
        self.assertEqual(fan(hub, [a]), [(hub, a, a)])
        self.assertEqual(fan(a, [a, b]), [(a, a, b), (a, b, a)])
        self.assertEqual(fan(a, [b, b]), [(a, b, b), (a, b, b)])

    def test_winding_numbers_add_up(self):
        for board in ((3, 2), (8, 8), (1, 4), (0, 3)):
            for seed in range(8):
                plane = some_plane(board, seed)
                chain = some_chain(board, seed, 1 + 3 * seed)
                for hub in some_chain(board, seed + 50, 3) + chain[:1]:
                    parts = [dict(windings(plane, list(part))) for part in fan(hub, chain)]
                    numbers = [
                        (cell, sum(part.get(cell, 0) for part in parts))
                        for cell in board_cells(board)
                    ]
                    self.assertEqual(
                        windings(plane, chain), [entry for entry in numbers if entry[1] != 0]
                    )

    def test_the_chain_stays_and_results_are_new(self):
        chain = [(0, 0), (1, 0), (1, 1)]
        first = fan((0, 1), chain)
        expected = list(first)
        first.clear()
        self.assertEqual(fan((0, 1), chain), expected)
        self.assertEqual(chain, [(0, 0), (1, 0), (1, 1)])


if __name__ == "__main__":
    unittest.main()
