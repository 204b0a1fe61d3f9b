"""Point 72 and the interface of cornerplane/splits.py."""

import random
import unittest
from itertools import combinations, product

from cornerplane.counting import half_tables
from cornerplane.planes import Plane
from cornerplane.splits import is_split, split_four
from tests.oracles import board_corners, derives
from tests.samples import planes_of, some_chain, some_plane

EAST = Plane((2, 2), "E" * 9, "E" * 9)
RING = [(0, 0), (2, 0), (2, 2), (0, 2)]


def splits(plane, four, certificate):
    """Point 72 word by word: True if the certificate is a split of the four corners."""
    first, second, corner, first_steps, second_steps = certificate
    groups = [
        (some, tuple(k for k in range(4) if k not in some))
        for count in (1, 2, 3) for some in combinations(range(4), count) if 0 in some
    ]
    if (tuple(first), tuple(second)) not in groups:
        return False
    for group, steps in ((first, first_steps), (second, second_steps)):
        corners = [four[k] for k in group]
        if not derives(plane, corners, steps):
            return False
        if corner not in corners + [step[0] for step in steps]:
            return False
    return True


class SplitFourTest(unittest.TestCase):
    def check(self, plane, four):
        found = split_four(plane, four)
        self.assertIsInstance(found, tuple)
        first, second, _, first_steps, second_steps = found
        self.assertIsInstance(first, tuple)
        self.assertIsInstance(second, tuple)
        for steps in (first_steps, second_steps):
            self.assertIsInstance(steps, list)
            self.assertLessEqual(len(steps), 3)
        self.assertTrue(splits(plane, four, found), (four, found))
        self.assertIs(is_split(plane, four, found), True)
        return found

    def test_small_ones(self):
        # The lines of opposite corners meet.
        first, second, corner, _, _ = self.check(EAST, RING)
        self.assertEqual((first, second), ((0, 2), (1, 3)))
        self.assertIn(corner, EAST.line((0, 0), (2, 2)))
        self.assertIn(corner, EAST.line((2, 0), (0, 2)))

    def test_a_corner_inside_the_triangle_of_the_others(self):
        plane = Plane((2, 3), *[half_tables((2, 3), half, [])[-1] for half in ("rising", "falling")])
        inner = 0
        for four in product(board_corners((2, 3)), repeat=4):
            if len(set(four)) == 4 and four[0] < four[1] < four[2]:
                found = self.check(plane, list(four))
                inner += len(found[0]) != 2
        self.assertGreater(inner, 0)

    def test_each_corner_can_be_the_inner_one(self):
        groups = set()
        for board, seed in (((8, 8), 1), ((8, 8), 2), ((5, 6), 3)):
            plane = some_plane(board, seed)
            for at in range(3000):
                four = some_chain(board, at, 4)
                first, second, _, _, _ = split_four(plane, four)
                groups.add((first, second))
        self.assertIn(((0,), (1, 2, 3)), groups)
        self.assertIn(((0, 1, 2), (3,)), groups)
        self.assertIn(((0, 1, 3), (2,)), groups)
        self.assertIn(((0, 2, 3), (1,)), groups)

    def test_all_corners_of_small_planes(self):
        for board in ((1, 1), (2, 1), (1, 2), (0, 2), (2, 0), (0, 0)):
            for rising in half_tables(board, "rising", []):
                for falling in half_tables(board, "falling", []):
                    plane = Plane(board, rising, falling)
                    for four in product(board_corners(board), repeat=4):
                        if len(board_corners(board)) < 5 or len(set(four)) == 4:
                            self.check(plane, four)

    def test_equal_corners(self):
        for plane in planes_of((3, 3)):
            for seed in range(60):
                a, b, c = some_chain((3, 3), seed, 3)
                for four in (
                    [a, a, a, a], [a, a, b, c], [a, b, a, c], [b, a, c, a], [b, c, a, a],
                    [a, a, b, b], [a, b, b, a], [a, b, a, b], [a, b, b, b], [b, b, b, a],
                ):
                    self.check(plane, four)
                    self.check(plane, tuple(four))

    def test_planes_of_the_largest_board(self):
        for plane in planes_of((8, 8)):
            for seed in range(400):
                self.check(plane, some_chain((8, 8), seed, 4))

    def test_the_list_stays_and_results_are_new(self):
        four = list(RING)
        first = split_four(EAST, four)
        expected = (*first[:3], list(first[3]), list(first[4]))
        first[3].clear()
        first[4].clear()
        self.assertEqual(split_four(EAST, four), expected)
        is_split(EAST, four, expected)
        self.assertEqual(four, RING)


class IsSplitTest(unittest.TestCase):
    def accepted(self, four, certificate):
        self.assertTrue(splits(EAST, four, certificate))
        for given in (list(four), tuple(four)):
            self.assertIs(is_split(EAST, given, certificate), True)
            first, second, corner, first_steps, second_steps = certificate
            self.assertIs(
                is_split(
                    EAST, given, (first, second, corner, tuple(first_steps), tuple(second_steps))
                ),
                True,
            )

    def refused(self, four, certificate):
        self.assertFalse(splits(EAST, four, certificate))
        for given in (list(four), tuple(four)):
            self.assertIs(is_split(EAST, given, certificate), False)

    def test_splits(self):
        # The line of (0, 0) and (2, 2) goes through (1, 0), (2, 0) and (2, 1).
        four = [(0, 0), (2, 0), (2, 2), (2, 1)]
        self.accepted(four, ((0, 2), (1, 3), (2, 0), [((2, 0), (0, 0), (2, 2))], []))
        self.accepted(four, ((0, 2), (1, 3), (2, 1), [((2, 1), (2, 2), (0, 0))], []))
        self.accepted(
            four, ((0, 2, 3), (1,), (2, 0), [((2, 0), (0, 0), (2, 1))], [])
        )
        self.accepted([(1, 1)] * 4, ((0,), (1, 2, 3), (1, 1), [], []))
        self.accepted([(1, 1)] * 4, ((0, 1, 2), (3,), (1, 1), [], []))
        self.accepted([(1, 1)] * 4, ((0, 3), (1, 2), (1, 1), [], []))

    def test_longer_derivations(self):
        four = [(0, 0), (2, 0), (2, 2), (2, 1)]
        step = ((2, 0), (0, 0), (2, 2))
        other = ((2, 0), (2, 0), (2, 1))
        self.accepted(four, ((0, 2), (1, 3), (2, 0), [step] * 5, [other] * 9))
        # The corner may come from any tuple of the derivation.
        steps = [((1, 0), (0, 0), (2, 2)), step, ((2, 1), (2, 0), (2, 2))]
        for corner in ((2, 0), (2, 1)):
            self.accepted(four, ((0, 2), (1, 3), corner, steps, []))
        self.refused(four, ((0, 2), (1, 3), (1, 0), steps, []))

    def test_groups_that_are_wrong(self):
        four = [(1, 1)] * 4
        for first, second in (
            ((0, 1), (2,)), ((0,), (1, 2)), ((0, 1, 2), (2, 3)), ((0, 0), (1, 2, 3)),
            ((0, 1), (2, 2, 3)), ((0, 1, 1), (2, 3)), ((2, 3), (0, 1)), ((1, 2, 3), (0,)),
            ((0, 1, 2, 3), ()), ((), (0, 1, 2, 3)), ((), ()), ((0, 2), (3, 1)),
            ((2, 0), (1, 3)), ((0, 1), (2, 4)), ((0, 4), (1, 2, 3)), ((0, 1), (2, -1)),
            ((-4, 1), (2, 3)), ((0, 1), (2, 3, 4)), ((0, 10 ** 30), (1, 2, 3)),
            ((0, 1), (3, 2)), ((0, 1, 2, 3), (3,)), ((1, 0), (2, 3)), ((0, 1, 3), ()),
            ((-1, 0), (1, 2, 3)), ((0, 1), (-2, 2, 3)),
        ):
            self.refused(four, (first, second, (1, 1), [], []))
        self.accepted(four, ((0, 1), (2, 3), (1, 1), [], []))

    def test_the_corner_must_be_in_both_groups(self):
        four = [(0, 0), (2, 0), (2, 2), (2, 1)]
        step = ((2, 0), (0, 0), (2, 2))
        for corner in board_corners((2, 2)) + [(-1, 0), (3, 3), (10 ** 30, -1)]:
            for steps in ([], [step]):
                certificate = ((0, 2), (1, 3), corner, steps, [])
                good = corner == (2, 0) and steps == [step]
                self.assertIs(splits(EAST, four, certificate), good)
                self.assertIs(is_split(EAST, four, certificate), good)
        # In one group only, with the derivations exchanged.
        self.refused(four, ((0, 2), (1, 3), (2, 0), [], [step]))
        self.refused(four, ((0, 2), (1, 3), (0, 0), [step], []))

    def test_derivations_that_are_nearly_right(self):
        four = [(0, 0), (2, 2), (1, 0), (0, 2)]
        one, two = ((2, 0), (0, 0), (2, 2)), ((0, 0), (1, 0), (0, 0))
        self.accepted(four, ((0, 1), (2, 3), (1, 0), [((1, 0), (0, 0), (2, 2))], []))
        self.refused(four, ((0, 1), (2, 3), (1, 0), [one], []))
        # A corner of the other group, one off its line, one that is not on the board.
        self.refused(four, ((0, 1), (2, 3), (1, 0), [((1, 0), (1, 0), (2, 2))], []))
        self.refused(four, ((0, 1), (2, 3), (1, 0), [((1, 0), (0, 0), (0, 0))], []))
        self.refused(four, ((0, 1), (2, 3), (1, 0), [((1, 0), (0, 0), (3, 3))], []))
        self.refused(four, ((0, 1), (2, 3), (1, 0), [((1, 0), (0, 0), (2, 2))], [two]))
        # A derivation that goes on wrongly behind the corner.
        self.refused(
            four,
            ((0, 1), (2, 3), (1, 0), [((1, 0), (0, 0), (2, 2)), ((0, 2), (0, 0), (1, 0))], []),
        )

    def test_random_changes_of_splits(self):
        accepted = 0
        for seed in range(600):
            chance = random.Random(seed)
            plane = planes_of((3, 3))[seed % 4] if seed < 40 else EAST
            four = some_chain((2, 2), seed, 4)
            certificate = list(split_four(plane, four))
            kind = chance.randrange(5)
            if kind < 2:
                group = list(certificate[kind])
                group[chance.randrange(len(group))] = chance.randrange(-1, 5)
                certificate[kind] = tuple(group)
            elif kind == 2:
                certificate[2] = (chance.randrange(3), chance.randrange(3))
            elif certificate[kind]:
                steps = [list(step) for step in certificate[kind]]
                step = chance.choice(steps)
                step[chance.randrange(3)] = (chance.randrange(3), chance.randrange(3))
                certificate[kind] = [tuple(step) for step in steps]
            else:
                certificate[0], certificate[1] = certificate[1], certificate[0]
            good = splits(plane, four, tuple(certificate))
            accepted += good
            self.assertIs(is_split(plane, four, tuple(certificate)), good)
        self.assertGreater(accepted, 30)
        self.assertLess(accepted, 500)


if __name__ == "__main__":
    unittest.main()
