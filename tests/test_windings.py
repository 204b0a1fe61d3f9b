"""Points 46, 47, 52 and 53 and the interface of cornerplane/windings.py."""

import random
import unittest

from cornerplane.errors import OpenSteps
from cornerplane.planes import Plane
from cornerplane.windings import (
    closed_walk, net_steps, signed_area, total_windings, windings, windings_of_steps,
)
from tests.oracles import board_cells, board_corners, walk_steps, winding_entries, winding_number
from tests.samples import some_chain, some_plane

BOARDS = [(1, 1), (2, 1), (1, 2), (3, 2), (4, 4), (8, 8), (0, 3), (3, 0), (0, 0)]
PLANE = Plane((2, 1), "EEN", "SSE")
SQUARE = [(0, 0), (1, 0), (1, 1), (0, 1)]


def some_chains(board, seed, most):
    return [some_chain(board, 100 * seed + k, 1 + (seed + k) % 9) for k in range(seed % most)]


class ClosedWalkTest(unittest.TestCase):
    def test_small_chains(self):
        self.assertEqual(closed_walk(PLANE, SQUARE), SQUARE)
        self.assertEqual(
            closed_walk(PLANE, [(0, 0), (2, 1)]),
            [(0, 0), (1, 0), (1, 1), (2, 1), (1, 1), (1, 0)],
        )
        self.assertEqual(
            closed_walk(PLANE, [(2, 1), (0, 0), (2, 0)]),
            [(2, 1), (1, 1), (1, 0), (0, 0), (1, 0), (2, 0)],
        )
        self.assertEqual(closed_walk(PLANE, [(1, 0), (0, 1)]), [(1, 0), (0, 0), (0, 1), (0, 0)])

    def test_chains_of_one_corner_and_of_equal_corners(self):
        for count in (1, 2, 3, 24):
            self.assertEqual(closed_walk(PLANE, [(1, 1)] * count), [(1, 1)])
            self.assertEqual(closed_walk(PLANE, ((1, 1),) * count), [(1, 1)])
        self.assertEqual(closed_walk(Plane((0, 0), "", ""), [(0, 0)]), [(0, 0)])

    def test_corners_that_come_again(self):
        self.assertEqual(
            closed_walk(PLANE, [(0, 0), (0, 0), (1, 0), (1, 0), (0, 0)]), [(0, 0), (1, 0)]
        )
        self.assertEqual(closed_walk(PLANE, SQUARE + SQUARE), SQUARE + SQUARE)

    def test_some_chains(self):
        for board in BOARDS:
            for seed in range(10):
                plane = some_plane(board, seed)
                chain = some_chain(board, seed, 1 + seed * 3 % 24)
                steps = walk_steps(plane, chain)
                expected = [a for a, _ in steps] or chain[:1]
                self.assertEqual(closed_walk(plane, chain), expected)
                self.assertEqual(closed_walk(plane, tuple(chain)), expected)
                if steps:
                    self.assertEqual([b for _, b in steps], expected[1:] + expected[:1])


class WindingsTest(unittest.TestCase):
    def test_small_chains(self):
        self.assertEqual(windings(PLANE, SQUARE), [((0, 0), 1)])
        self.assertEqual(windings(PLANE, SQUARE[::-1]), [((0, 0), -1)])
        self.assertEqual(windings(PLANE, [(0, 0), (2, 0), (2, 1), (0, 1)]),
                         [((0, 0), 1), ((1, 0), 1)])
        self.assertEqual(windings(PLANE, [(0, 0), (2, 0), (2, 1)]), [((1, 0), 1)])
        self.assertEqual(windings(PLANE, [(0, 0), (2, 1)]), [])

    def test_chains_of_one_corner_and_of_equal_corners(self):
        for chain in ([(1, 1)], [(1, 1)] * 5):
            self.assertEqual(windings(PLANE, chain), [])
            self.assertEqual(signed_area(PLANE, chain), 0)

    def test_a_chain_that_is_walked_twice(self):
        self.assertEqual(windings(PLANE, SQUARE + SQUARE), [((0, 0), 2)])
        self.assertEqual(windings(PLANE, (SQUARE * 6)[::-1]), [((0, 0), -6)])
        self.assertEqual(signed_area(PLANE, SQUARE * 2), 2)
        self.assertEqual(windings(PLANE, SQUARE + SQUARE[:1] + SQUARE[:0:-1]), [])

    def test_an_eight_winds_both_ways(self):
        plane = Plane((2, 2), "E" * 9, "E" * 9)
        eight = [(1, 1), (1, 0), (0, 0), (0, 1), (1, 1), (1, 2), (2, 2), (2, 1)]
        self.assertEqual(windings(plane, eight), [((0, 0), -1), ((1, 1), -1)])
        other = [(1, 1), (1, 0), (0, 0), (0, 1), (1, 1), (2, 1), (2, 2), (1, 2)]
        self.assertEqual(windings(plane, other), [((0, 0), -1), ((1, 1), 1)])
        self.assertEqual(signed_area(plane, other), 0)

    def test_some_chains(self):
        for board in BOARDS:
            for seed in range(10):
                plane = some_plane(board, seed)
                chain = some_chain(board, seed + 7, 1 + seed * 3 % 24)
                expected = winding_entries(board, walk_steps(plane, chain))
                for given in (list(chain), tuple(chain)):
                    self.assertEqual(windings(plane, given), expected)
                    self.assertEqual(
                        signed_area(plane, given), sum(number for _, number in expected)
                    )

    def test_the_area_is_that_of_the_polygon(self):
        for seed in range(20):
            plane = some_plane((5, 5), seed)
            chain = some_chain((5, 5), seed, 8)
            twice = sum(a[0] * b[1] - a[1] * b[0] for a, b in walk_steps(plane, chain))
            self.assertEqual(2 * signed_area(plane, chain), twice)

    def test_every_chain_of_three_corners_of_a_small_board(self):
        for seed in range(3):
            plane = some_plane((2, 2), seed)
            corners = board_corners((2, 2))
            for chain in ((p, q, r) for p in corners for q in corners for r in corners):
                expected = winding_entries((2, 2), walk_steps(plane, chain))
                self.assertEqual(windings(plane, list(chain)), expected)


class NetStepsTest(unittest.TestCase):
    def test_small_chains(self):
        self.assertEqual(net_steps(PLANE, [SQUARE]), [
            (((0, 0), (0, 1)), -1), (((0, 0), (1, 0)), 1),
            (((0, 1), (1, 1)), -1), (((1, 0), (1, 1)), 1),
        ])
        self.assertEqual(net_steps(PLANE, [SQUARE, SQUARE])[0], (((0, 0), (0, 1)), -2))
        self.assertEqual(net_steps(PLANE, [SQUARE, SQUARE[::-1]]), [])
        self.assertEqual(net_steps(PLANE, [[(0, 0), (2, 1)], [(1, 1)]]), [])

    def test_an_empty_list(self):
        for chains in ([], ()):
            self.assertEqual(net_steps(PLANE, chains), [])
            self.assertEqual(total_windings(PLANE, chains), [])

    def test_some_lists_of_chains(self):
        for board in BOARDS:
            for seed in range(12):
                plane = some_plane(board, seed)
                chains = some_chains(board, seed, 7)
                steps = [step for chain in chains for step in walk_steps(plane, chain)]
                pairs = sorted({(min(step), max(step)) for step in steps})
                numbers = [((a, b), steps.count((a, b)) - steps.count((b, a))) for a, b in pairs]
                expected = [entry for entry in numbers if entry[1] != 0]
                self.assertEqual(net_steps(plane, chains), expected)
                self.assertEqual(net_steps(plane, tuple(map(tuple, chains))), expected)


class TotalWindingsTest(unittest.TestCase):
    def test_numbers_add_up(self):
        right = [(1, 0), (2, 0), (2, 1), (1, 1)]
        self.assertEqual(total_windings(PLANE, [SQUARE, right]), [((0, 0), 1), ((1, 0), 1)])
        self.assertEqual(total_windings(PLANE, [SQUARE, SQUARE]), [((0, 0), 2)])
        self.assertEqual(total_windings(PLANE, [SQUARE, SQUARE[::-1], right]), [((1, 0), 1)])

    def test_some_lists_of_chains(self):
        for board in BOARDS:
            for seed in range(12):
                plane = some_plane(board, seed)
                chains = some_chains(board, seed, 7)
                walks = [walk_steps(plane, chain) for chain in chains]
                numbers = [
                    (cell, sum(winding_number(walk, cell) for walk in walks))
                    for cell in board_cells(board)
                ]
                expected = [entry for entry in numbers if entry[1] != 0]
                self.assertEqual(total_windings(plane, chains), expected)
                self.assertEqual(total_windings(plane, tuple(map(tuple, chains))), expected)
                self.assertEqual(windings_of_steps(net_steps(plane, chains)), expected)


class WindingsOfStepsTest(unittest.TestCase):
    square = [
        (((0, 0), (1, 0)), 3), (((1, 0), (1, 1)), 3), (((0, 1), (1, 1)), -3),
        (((0, 0), (0, 1)), -3),
    ]

    def refused(self, steps, corner):
        for given in (list(steps), tuple(steps), list(steps)[::-1]):
            with self.assertRaises(OpenSteps) as caught:
                windings_of_steps(given)
            self.assertEqual(caught.exception.corner, corner)

    def test_closed_steps_in_any_order(self):
        self.assertEqual(windings_of_steps([]), [])
        self.assertEqual(windings_of_steps(()), [])
        self.assertEqual(windings_of_steps(self.square), [((0, 0), 3)])
        self.assertEqual(windings_of_steps(tuple(self.square[::-1])), [((0, 0), 3)])

    def test_the_numbers_of_the_entries_east_of_a_cell_are_added(self):
        chance = random.Random(4)
        for board in BOARDS:
            for seed in range(6):
                plane = some_plane(board, seed)
                entries = net_steps(plane, [some_chain(board, seed + k, 9) for k in range(5)])
                chance.shuffle(entries)
                numbers = dict(entries)
                expected = []
                for x, y in board_cells(board):
                    number = sum(
                        numbers.get(((z, y), (z, y + 1)), 0) for z in range(x + 1, board[0] + 1)
                    )
                    if number != 0:
                        expected.append(((x, y), number))
                self.assertEqual(windings_of_steps(entries), expected)

    def test_entries_with_0_change_nothing(self):
        more = self.square + [(((2, 0), (2, 1)), 0), (((7, 7), (8, 7)), 0)]
        self.assertEqual(windings_of_steps(more), [((0, 0), 3)])

    def test_the_least_open_corner(self):
        self.refused([(((0, 0), (1, 0)), 1)], (0, 0))
        self.refused([(((0, 0), (1, 0)), -1)], (0, 0))
        self.refused([(((2, 3), (2, 4)), 2)], (2, 3))
        self.refused(self.square[1:], (0, 0))
        self.refused(self.square[:1] + self.square[2:], (1, 0))
        self.refused(self.square[:2] + self.square[3:], (0, 1))
        self.refused(self.square + [(((4, 4), (5, 4)), 1)], (4, 4))
        self.refused(self.square[:3] + [(((0, 0), (0, 1)), -2)], (0, 0))
        self.refused(self.square[:3] + [(((0, 0), (0, 1)), 3)], (0, 0))

    def test_one_entry_left_out_or_changed(self):
        chance = random.Random(5)
        for seed in range(20):
            plane = some_plane((4, 3), seed)
            entries = net_steps(plane, [some_chain((4, 3), seed, 7), SQUARE])
            at = chance.randrange(len(entries))
            (a, b), number = entries[at]
            self.refused(entries[:at] + entries[at + 1:], a)
            self.refused(entries[:at] + [((a, b), number + 1)] + entries[at + 1:], a)


class ArgumentsTest(unittest.TestCase):
    def test_arguments_stay_as_they_were_and_results_are_new(self):
        chain = list(SQUARE)
        chains = [chain, [(0, 0), (2, 0), (2, 1)]]
        entries = net_steps(PLANE, chains)
        for ask in (
            lambda: closed_walk(PLANE, chain),
            lambda: closed_walk(PLANE, chain[:1]),
            lambda: windings(PLANE, chain),
            lambda: net_steps(PLANE, chains),
            lambda: total_windings(PLANE, chains),
            lambda: windings_of_steps(entries),
        ):
            first = ask()
            expected = list(first)
            self.assertTrue(expected)
            first.clear()
            self.assertEqual(ask(), expected)
        signed_area(PLANE, chain)
        self.assertEqual(chains, [SQUARE, [(0, 0), (2, 0), (2, 1)]])
        self.assertEqual(entries, net_steps(PLANE, chains))
        one = [(1, 1)]
        closed_walk(PLANE, one).append((0, 0))
        self.assertEqual(one, [(1, 1)])


if __name__ == "__main__":
    unittest.main()
