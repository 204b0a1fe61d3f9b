"""Points 64 and 65 and the interface of cornerplane/borders.py."""

import unittest
from itertools import product

from cornerplane.borders import border_chains, borders, paint_face
from cornerplane.landmaps import LandMap, overlay
from cornerplane.planes import Plane
from cornerplane.regions import Region
from tests.oracles import board_cells, board_corners
from tests.samples import planes_of, some_cells, some_land, some_plane

EAST = Plane((2, 2), "E" * 9, "E" * 9)


def land_of(board, **faces):
    return LandMap(board, list(faces.items()))


def names_beside(land, a, b):
    """The names of the cells to the left and to the right of a step, by turning its direction."""
    (x, y), (u, v) = a, b
    east, north = u - x, v - y
    # Twice the middle of the step, moved by one to the left and by one to the right.
    for_both = []
    for left_east, left_north in ((-north, east), (north, -east)):
        middle = (x + u + left_east, y + v + left_north)
        for_both.append(land.face_at(((middle[0] - 1) // 2, (middle[1] - 1) // 2)))
    return tuple(for_both)


def border_pairs(land):
    """The undirected border steps, as sorted pairs."""
    corners = board_corners(land.board)
    pairs = [
        (a, b) for a in corners for b in ((a[0] + 1, a[1]), (a[0], a[1] + 1)) if b in corners
    ]
    return {(a, b) for a, b in pairs if len(set(names_beside(land, a, b))) == 2}


def all_lands(board, names):
    """All maps of a small board with faces of these names."""
    for row in product([""] + names, repeat=len(board_cells(board))):
        faces = [
            (name, [cell for cell, other in zip(board_cells(board), row) if other == name])
            for name in names
        ]
        yield LandMap(board, faces)


def some_lands():
    for board in ((3, 3), (8, 8), (5, 2), (1, 4), (0, 3), (3, 0), (0, 0)):
        for seed in range(10):
            yield some_land(board, seed, 0.1 + 0.1 * seed)
        yield overlay(some_land(board, 1, 0.8), some_land(board, 2, 0.8))
        yield LandMap(board, [("a", some_cells(board, 5, 0.5))])


class BordersTest(unittest.TestCase):
    def check(self, land):
        found = borders(land)
        self.assertIsInstance(found, list)
        pairs = border_pairs(land)
        walked = []
        for left, right, corners in found:
            self.assertIsInstance(corners, list)
            steps = list(zip(corners, corners[1:]))
            self.assertGreater(len(steps), 0)
            walked += [tuple(sorted(step)) for step in steps]
            for a, b in steps:
                self.assertEqual(names_beside(land, a, b), (left, right))
            self.check_ends(pairs, corners)
        self.assertEqual(len(walked), len(set(walked)))
        self.assertEqual(set(walked), pairs)
        rows = [corners for left, right, corners in found]
        self.assertEqual(rows, sorted(rows))
        return found

    def check_ends(self, pairs, corners):
        ways = {corner: sum(corner in pair for pair in pairs) for corner in corners}
        for corner in corners[1:-1]:
            self.assertEqual(ways[corner], 2)
        if ways[corners[0]] == 2:
            self.assertEqual(corners[0], corners[-1])
            self.assertEqual(corners[0], min(corners))
            self.assertLess(corners[1], corners[-2])
        else:
            self.assertIn(ways[corners[0]], (3, 4))
            self.assertIn(ways[corners[-1]], (3, 4))
            self.assertLess(corners, corners[::-1])

    def test_the_example_of_the_interface(self):
        land = LandMap((2, 1), [("a", [(0, 0)]), ("b", [(1, 0)])])
        self.assertEqual(borders(land), [
            ("", "a", [(1, 0), (0, 0), (0, 1), (1, 1)]),
            ("a", "b", [(1, 0), (1, 1)]),
            ("b", "", [(1, 0), (2, 0), (2, 1), (1, 1)]),
        ])

    def test_a_closed_arc_without_a_node(self):
        # The rim of the board is a border too; the arc goes north first, so the face is right.
        self.assertEqual(
            borders(land_of((1, 1), a=[(0, 0)])),
            [("", "a", [(0, 0), (0, 1), (1, 1), (1, 0), (0, 0)])],
        )
        self.assertEqual(
            borders(land_of((3, 3), a=[(1, 1)])),
            [("", "a", [(1, 1), (1, 2), (2, 2), (2, 1), (1, 1)])],
        )

    def test_a_hole_and_a_face_in_it(self):
        frame = [cell for cell in board_cells((3, 3)) if cell != (1, 1)]
        rim = [
            (0, 0), (0, 1), (0, 2), (0, 3), (1, 3), (2, 3), (3, 3), (3, 2), (3, 1), (3, 0),
            (2, 0), (1, 0), (0, 0),
        ]
        hole = [(1, 1), (1, 2), (2, 2), (2, 1), (1, 1)]
        self.assertEqual(
            borders(land_of((3, 3), a=frame)), [("", "a", rim), ("a", "", hole)]
        )
        self.assertEqual(
            borders(land_of((3, 3), a=frame, b=[(1, 1)])), [("", "a", rim), ("a", "b", hole)]
        )

    def test_a_node_of_four_steps(self):
        # Two cells of one face touch at a corner: both arcs begin and end there.
        self.assertEqual(borders(land_of((2, 2), a=[(0, 0), (1, 1)])), [
            ("a", "", [(1, 1), (0, 1), (0, 0), (1, 0), (1, 1)]),
            ("", "a", [(1, 1), (1, 2), (2, 2), (2, 1), (1, 1)]),
        ])
        found = borders(
            land_of((2, 2), a=[(0, 0)], b=[(1, 0)], c=[(0, 1)], d=[(1, 1)])
        )
        self.assertEqual(
            [arc for arc in found if (1, 1) in arc[2]],
            [
                ("c", "a", [(0, 1), (1, 1)]), ("a", "b", [(1, 0), (1, 1)]),
                ("c", "d", [(1, 1), (1, 2)]), ("d", "b", [(1, 1), (2, 1)]),
            ],
        )
        self.assertEqual(len(found), 8)

    def test_a_node_of_three_steps(self):
        found = borders(land_of((2, 2), a=[(0, 0), (0, 1)], b=[(1, 0)], c=[(1, 1)]))
        self.assertIn(("a", "b", [(1, 0), (1, 1)]), found)
        self.assertIn(("a", "c", [(1, 1), (1, 2)]), found)
        self.assertIn(("c", "b", [(1, 1), (2, 1)]), found)
        self.assertEqual(len(found), 6)

    def test_no_border(self):
        for board in ((0, 0), (0, 4), (4, 0), (3, 3)):
            self.assertEqual(borders(LandMap(board, [])), [])
            self.assertEqual(borders(LandMap(board, [("a", [])])), [])

    def test_all_maps_of_small_boards(self):
        for board, names in (
            ((1, 1), ["a", "b"]), ((2, 2), ["a", "b", "c"]), ((3, 2), ["a", "b"]),
            ((3, 3), ["a"]), ((1, 4), ["a", "b"]),
        ):
            for land in all_lands(board, names):
                self.check(land)

    def test_some_maps(self):
        arcs, closed = 0, 0
        for land in some_lands():
            found = self.check(land)
            arcs += len(found)
            closed += sum(corners[0] == corners[-1] for left, right, corners in found)
        self.assertGreater(arcs, 500)
        self.assertGreater(closed, 40)

    def test_the_map_stays_and_results_are_new(self):
        land = land_of((2, 2), a=[(0, 0)], b=[(1, 0)])
        first = borders(land)
        expected = [(left, right, list(corners)) for left, right, corners in first]
        first[0][2].clear()
        first.clear()
        self.assertEqual(borders(land), expected)


def farthest_chain(plane, corners):
    """The chain along the corners, each end found by trying every later position."""
    chain, at = [corners[0]], 0
    while at < len(corners) - 1:
        at = max(
            b for b in range(at + 1, len(corners))
            if corners[at:b + 1] == plane.line(corners[at], corners[b])
        )
        chain.append(corners[at])
    return chain


def painted(plane, chains, name):
    """The cells with an odd number of the steps of the chains of a name to their east."""
    steps = []
    for left, right, chain in chains:
        if name in (left, right):
            for a, b in zip(chain, chain[1:]):
                line = plane.line(a, b)
                steps += [tuple(sorted(step)) for step in zip(line, line[1:])]
    return tuple(
        (x, y) for x, y in board_cells(plane.board)
        if sum(steps.count(((z, y), (z, y + 1))) for z in range(x + 1, 10)) % 2 == 1
    )


class BorderChainsTest(unittest.TestCase):
    def test_small_maps(self):
        land = LandMap((2, 2), [("a", [(0, 0), (0, 1), (1, 0), (1, 1)])])
        self.assertEqual(
            border_chains(EAST, land), [("", "a", [(0, 0), (0, 2), (2, 0), (0, 0)])]
        )
        land = LandMap((2, 2), [("a", [(0, 0)]), ("b", [(1, 0)])])
        self.assertEqual(border_chains(EAST, land), [
            ("", "a", [(1, 0), (0, 0), (0, 1), (1, 1)]),
            ("a", "b", [(1, 0), (1, 1)]),
            ("b", "", [(1, 0), (2, 1), (1, 1)]),
        ])
        self.assertEqual(border_chains(EAST, LandMap((2, 2), [])), [])

    def test_the_farthest_position_comes_next(self):
        long_chains = 0
        for land in some_lands():
            for plane in planes_of(land.board):
                found = border_chains(plane, land)
                self.assertEqual(found, [
                    (left, right, farthest_chain(plane, corners))
                    for left, right, corners in borders(land)
                ])
                long_chains += sum(len(chain) > 3 for left, right, chain in found)
        self.assertGreater(long_chains, 50)

    def test_the_lines_along_the_chain_are_the_arc(self):
        for land in some_lands():
            plane = some_plane(land.board, 4)
            for (_, _, chain), (_, _, corners) in zip(border_chains(plane, land), borders(land)):
                row = [chain[0]]
                for a, b in zip(chain, chain[1:]):
                    row += plane.line(a, b)[1:]
                self.assertEqual(row, corners)

    def test_arguments_stay_and_results_are_new(self):
        land = LandMap((2, 2), [("a", [(0, 0)])])
        first = border_chains(EAST, land)
        expected = [(left, right, list(chain)) for left, right, chain in first]
        first[0][2].clear()
        first.clear()
        self.assertEqual(border_chains(EAST, land), expected)


class PaintFaceTest(unittest.TestCase):
    def test_all_chains_give_the_face(self):
        for land in some_lands():
            for plane in planes_of(land.board):
                chains = border_chains(plane, land)
                for name in land.names():
                    for given in (chains, tuple(chains)):
                        found = paint_face(plane, given, name)
                        self.assertIsInstance(found, Region)
                        self.assertEqual(found.cells, land.region(name).cells)

    def test_some_chains_and_another_plane(self):
        painted_cells = 0
        for land in some_lands():
            plane, other = planes_of(land.board)[1:3]
            for keep in (2, 3):
                chains = [
                    (left, right, tuple(chain))
                    for k, (left, right, chain) in enumerate(border_chains(plane, land))
                    if k % keep
                ]
                for name in land.names():
                    for used in (plane, other):
                        found = paint_face(used, chains, name)
                        self.assertEqual(found.cells, painted(used, chains, name))
                        painted_cells += len(found)
        self.assertGreater(painted_cells, 200)

    def test_open_rows_have_no_side_back_to_the_first(self):
        # One column: the cells west of it. Two of them: the cells between.
        column = ("a", "b", [(2, 0), (2, 2)])
        self.assertEqual(paint_face(EAST, [column], "a").cells, tuple(board_cells((2, 2))))
        self.assertEqual(paint_face(EAST, [column], "b").cells, tuple(board_cells((2, 2))))
        self.assertEqual(
            paint_face(EAST, [column, ("x", "a", [(1, 2), (1, 1)])], "a").cells,
            ((0, 0), (1, 0), (1, 1)),
        )
        self.assertEqual(paint_face(EAST, [column, column], "a").cells, ())

    def test_chains_without_the_name_do_not_count(self):
        column = ("a", "", [(2, 0), (2, 2)])
        self.assertEqual(paint_face(EAST, [column], "b").cells, ())
        self.assertEqual(paint_face(EAST, [], "a").cells, ())
        self.assertEqual(paint_face(EAST, (), "a").cells, ())

    def test_a_single_corner_has_no_step(self):
        self.assertEqual(paint_face(EAST, [("a", "b", [(1, 1)])], "a").cells, ())
        self.assertEqual(paint_face(EAST, [("a", "b", [(1, 1), (1, 1)])], "a").cells, ())

    def test_arguments_stay_as_they_were(self):
        chains = [("a", "b", [(2, 0), (2, 2)]), ("", "a", [(1, 0), (1, 2)])]
        region = paint_face(EAST, chains, "a")
        self.assertEqual(
            chains, [("a", "b", [(2, 0), (2, 2)]), ("", "a", [(1, 0), (1, 2)])]
        )
        chains[0][2].clear()
        self.assertEqual(region.cells, ((1, 0), (1, 1)))


if __name__ == "__main__":
    unittest.main()
