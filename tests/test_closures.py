"""Points 68 to 71 and the interface of cornerplane/closures.py."""

import random
import unittest
from itertools import combinations, product

from cornerplane.closures import closure, derivation, find_triple, is_derivation, open_pair
from cornerplane.planes import Plane, each_line
from cornerplane.triangles import Triangle
from tests.oracles import board_corners, closed_over, derives
from tests.samples import planes_of, shuffled, some_chain, some_corners, some_plane

BOARDS = [(1, 1), (2, 2), (3, 2), (8, 8), (0, 3), (3, 0), (0, 0)]
EAST = Plane((2, 2), "E" * 9, "E" * 9)


def all_sets(board):
    corners = board_corners(board)
    return [
        list(some) for count in range(len(corners) + 1) for some in combinations(corners, count)
    ]


def some_sets(board):
    """Sets of corners by chance, small and large ones, and closures of small ones."""
    for seed in range(12):
        yield some_corners(board, seed, 0.02 + 0.08 * seed)
        yield closed_over(some_plane(board, 1), some_chain(board, seed, 1 + seed % 4))


class OpenPairTest(unittest.TestCase):
    def check(self, plane, corners):
        expected = None
        for a, b in combinations(sorted(set(corners)), 2):
            outside = [c for c in plane.line(a, b) if c not in corners]
            if outside:
                expected = (a, b, outside[0])
                break
        for given in (list(corners), tuple(corners), shuffled(corners, len(corners))):
            self.assertEqual(open_pair(plane, given), expected)
        return expected

    def test_small_sets(self):
        self.assertEqual(open_pair(EAST, [(0, 0), (1, 1)]), ((0, 0), (1, 1), (1, 0)))
        self.assertEqual(
            open_pair(EAST, [(2, 2), (0, 0), (1, 0)]), ((0, 0), (2, 2), (2, 0))
        )
        self.assertEqual(
            open_pair(EAST, [(2, 0), (0, 2), (1, 2)]), ((0, 2), (2, 0), (2, 2))
        )
        self.assertIsNone(open_pair(EAST, [(1, 1), (0, 0), (1, 0)]))

    def test_closed_sets(self):
        for board in BOARDS:
            for plane in planes_of(board):
                for corners in ([], [board], [(0, 0)] * 3, board_corners(board)):
                    self.assertIsNone(self.check(plane, corners))
                for line in list(each_line(plane))[:200]:
                    self.assertIsNone(open_pair(plane, line))

    def test_all_sets_of_a_small_board(self):
        for plane in planes_of((2, 1)) + planes_of((1, 2)) + [EAST]:
            for corners in all_sets(plane.board):
                self.check(plane, corners)

    def test_some_sets(self):
        closed = 0
        for board in BOARDS:
            for plane in planes_of(board):
                for corners in some_sets(board):
                    closed += self.check(plane, corners) is None
        self.assertGreater(closed, 50)


class ClosureTest(unittest.TestCase):
    def test_small_sets(self):
        self.assertEqual(closure(EAST, []), [])
        self.assertEqual(closure(EAST, [(1, 2), (1, 2)]), [(1, 2)])
        self.assertEqual(
            closure(EAST, [(2, 2), (0, 0)]), [(0, 0), (1, 0), (2, 0), (2, 1), (2, 2)]
        )
        self.assertEqual(
            closure(EAST, ((0, 0), (0, 1), (1, 1))), [(0, 0), (0, 1), (1, 0), (1, 1)]
        )

    def test_the_least_closed_set_with_the_corners(self):
        for board in BOARDS:
            for plane in planes_of(board):
                for corners in some_sets(board):
                    expected = closed_over(plane, corners)
                    for given in (corners, tuple(corners), shuffled(corners, 7)):
                        self.assertEqual(closure(plane, given), expected)
                    self.assertIsNone(open_pair(plane, expected))

    def test_the_corners_of_a_triangle_lie_in_it(self):
        for board in ((3, 3), (8, 8)):
            for plane in planes_of(board):
                for seed in range(30):
                    ends = some_chain(board, seed, 3)
                    found = closure(plane, ends)
                    self.assertLessEqual(set(Triangle(plane, *ends).corners), set(found))

    def test_in_an_even_plane_a_triangle_is_the_closure(self):
        for board in ((3, 3), (8, 8)):
            # The last two planes are even.
            for plane in planes_of(board)[2:]:
                for seed in range(30):
                    ends = some_chain(board, seed, 3)
                    corners = Triangle(plane, *ends).corners
                    self.assertEqual(closure(plane, ends), list(corners))


class DerivationTest(unittest.TestCase):
    def check(self, plane, corners):
        missing = [c for c in closed_over(plane, corners) if c not in corners]
        for given in (list(corners), tuple(corners), shuffled(corners, 3)):
            found = derivation(plane, given)
            self.assertIsInstance(found, list)
            self.assertTrue(all(isinstance(entry, tuple) for entry in found))
            self.assertEqual(sorted(c for c, a, b in found), missing)
            self.assertTrue(derives(plane, given, found))
            self.assertIs(is_derivation(plane, given, found), True)
        return found

    def test_small_sets(self):
        self.assertEqual(derivation(EAST, []), [])
        self.assertEqual(derivation(EAST, [(1, 1)]), [])
        self.assertEqual(derivation(EAST, board_corners((2, 2))), [])
        ((c, a, b),) = derivation(EAST, [(0, 0), (1, 1)])
        self.assertEqual((c, sorted([a, b])), ((1, 0), [(0, 0), (1, 1)]))

    def test_all_sets_of_a_small_board(self):
        for plane in [EAST] + planes_of((2, 1)):
            for corners in all_sets(plane.board):
                self.check(plane, corners)

    def test_some_sets(self):
        lengths = set()
        for board in BOARDS:
            for plane in planes_of(board):
                for corners in some_sets(board):
                    lengths.add(len(self.check(plane, corners)))
        self.assertGreater(max(lengths), 30)


class IsDerivationTest(unittest.TestCase):
    GIVEN = [(0, 0), (1, 1), (0, 2)]
    STEPS = [
        ((1, 0), (0, 0), (1, 1)), ((1, 2), (0, 2), (1, 1)), ((0, 1), (0, 0), (0, 2)),
    ]

    def refused(self, entries):
        for given in (self.GIVEN, tuple(self.GIVEN), self.GIVEN[::-1] * 2):
            self.assertIs(is_derivation(EAST, given, entries), False)
            self.assertIs(is_derivation(EAST, given, tuple(entries)), False)
        self.assertFalse(derives(EAST, self.GIVEN, entries))

    def accepted(self, entries):
        for given in (self.GIVEN, tuple(self.GIVEN), self.GIVEN[::-1] * 2):
            self.assertIs(is_derivation(EAST, given, entries), True)
            self.assertIs(is_derivation(EAST, given, tuple(entries)), True)

    def test_derivations(self):
        self.accepted([])
        self.accepted(self.STEPS)
        self.accepted(self.STEPS[::-1])
        self.accepted(self.STEPS[:1])
        self.accepted([(c, b, a) for c, a, b in self.STEPS])

    def test_corners_several_times_and_given_ones(self):
        self.accepted(self.STEPS * 2)
        self.accepted([((0, 0), (0, 0), (0, 0)), ((1, 1), (0, 0), (1, 1))])
        self.accepted(self.STEPS[:1] + [((1, 0), (1, 0), (1, 0)), ((1, 0), (1, 0), (1, 1))])

    def test_nearly_right_ones(self):
        # A corner that is not yet there, off its line, or not there at all.
        later = [((2, 0), (0, 0), (2, 2))]
        self.refused(later)
        self.refused([((1, 1), (1, 0), (1, 2))] + self.STEPS)
        self.accepted(self.STEPS + [((1, 1), (1, 0), (1, 2))])
        self.refused([((0, 1), (0, 0), (1, 1))])
        self.refused([((2, 2), (0, 0), (1, 1))])
        self.refused(self.STEPS + [((2, 1), (1, 0), (1, 1))])
        self.refused(self.STEPS + [((1, 0), (2, 0), (1, 1))])
        self.refused(self.STEPS[:2] + [((0, 1), (0, 1), (0, 2))])
        # The tuple's first item is not derived before the tuple itself.
        self.refused([((2, 0), (2, 0), (2, 0))])

    def test_a_tuple_left_out_or_in_another_order(self):
        plane = planes_of((8, 8))[0]
        corners = [(0, 0), (8, 7), (7, 0), (1, 8)]
        entries = derivation(plane, corners)
        accepted = 0
        for at in range(len(entries)):
            for given in (
                entries[:at] + entries[at + 1:], entries[at:] + entries[:at],
                entries[:at][::-1] + entries[at:],
            ):
                expected = derives(plane, corners, given)
                accepted += expected
                self.assertIs(is_derivation(plane, corners, given), expected)
        self.assertGreater(accepted, 0)
        self.assertLess(accepted, 3 * len(entries))

    def test_numbers_that_are_negative_or_too_large(self):
        for bad in ((-1, 0), (0, -1), (3, 0), (0, 3), (10 ** 30, 0), (0, -10 ** 30)):
            self.refused([(bad, (0, 0), (1, 1))])
            self.refused([((1, 0), bad, (1, 1))])
            self.refused([((1, 0), (0, 0), bad)])
            self.refused([(bad, bad, bad)])

    def test_every_single_tuple(self):
        around = [(x, y) for x in range(-1, 4) for y in range(-1, 4)]
        for c, a, b in product(around, repeat=3):
            good = a in self.GIVEN and b in self.GIVEN and c in EAST.line(a, b)
            self.assertIs(is_derivation(EAST, self.GIVEN, [(c, a, b)]), good)
            self.assertIs(is_derivation(EAST, [], [(c, a, b)]), False)

    def test_random_changes(self):
        for seed in range(300):
            chance = random.Random(seed)
            plane = planes_of((3, 2))[seed % 4]
            corners = some_chain((3, 2), seed, 3)
            entries = derivation(plane, corners)
            for _ in range(2):
                if entries:
                    at = chance.randrange(len(entries))
                    entry = list(entries[at])
                    entry[chance.randrange(3)] = (chance.randrange(4), chance.randrange(3))
                    entries[at] = tuple(entry)
            self.assertIs(
                is_derivation(plane, corners, entries), derives(plane, corners, entries)
            )


class FindTripleTest(unittest.TestCase):
    def check(self, plane, corners, corner):
        known = sorted(set(corners))
        triples = [
            (a, b, c) for a in known for b in known for c in known
            if a <= b <= c and corner in Triangle(plane, a, b, c).corners
        ]
        expected = min(triples) if triples else None
        for given in (list(corners), tuple(corners), shuffled(corners, 5)):
            self.assertEqual(find_triple(plane, given, corner), expected)
        return expected

    def test_small_ones(self):
        ends = [(2, 2), (0, 0), (0, 2)]
        self.assertEqual(find_triple(EAST, ends, (0, 0)), ((0, 0), (0, 0), (0, 0)))
        self.assertEqual(find_triple(EAST, ends, (2, 0)), ((0, 0), (0, 0), (2, 2)))
        self.assertEqual(find_triple(EAST, ends, (1, 1)), ((0, 0), (0, 2), (2, 2)))
        self.assertIsNone(find_triple(EAST, [(0, 0), (0, 2)], (1, 1)))
        self.assertIsNone(find_triple(EAST, [], (1, 1)))
        self.assertEqual(find_triple(EAST, [(1, 1)] * 3, (1, 1)), ((1, 1), (1, 1), (1, 1)))

    def test_some_lists(self):
        kinds = set()
        for board in ((2, 2), (3, 2), (8, 8), (0, 3), (3, 0), (0, 0)):
            for plane in planes_of(board):
                for seed in range(8):
                    corners = some_chain(board, seed, seed)
                    corner = some_chain(board, seed + 60, 1)[0]
                    found = self.check(plane, corners, corner)
                    kinds.add(found and len(set(found)))
        self.assertEqual(kinds, {None, 1, 2, 3})

    def test_twelve_corners(self):
        for plane in planes_of((8, 8)):
            corners = shuffled(some_chain((8, 8), 6, 12), 1)[:12]
            self.check(plane, corners, (4, 4))

    def test_in_an_even_plane_every_corner_of_the_closure_has_one(self):
        for board in ((3, 3), (8, 8)):
            for plane in planes_of(board)[2:]:
                for seed in range(4):
                    corners = some_chain(board, seed, 6)
                    found = closed_over(plane, corners)
                    for corner in board_corners(board):
                        triple = find_triple(plane, corners, corner)
                        self.assertEqual(triple is not None, corner in found)


class ArgumentsTest(unittest.TestCase):
    def test_arguments_stay_as_they_were_and_results_are_new(self):
        corners = [(2, 2), (0, 0), (0, 1), (0, 0)]
        before = list(corners)
        for ask in (lambda: closure(EAST, corners), lambda: derivation(EAST, corners)):
            first = ask()
            expected = list(first)
            self.assertTrue(expected)
            first.clear()
            self.assertEqual(ask(), expected)
        entries = derivation(EAST, corners)
        copied = list(entries)
        is_derivation(EAST, corners, entries)
        open_pair(EAST, corners)
        find_triple(EAST, corners, (1, 1))
        self.assertEqual((corners, entries), (before, copied))


if __name__ == "__main__":
    unittest.main()
