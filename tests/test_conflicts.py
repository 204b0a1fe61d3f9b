"""Points 10 to 12 and the interface of cornerplane/conflicts.py."""

import unittest
from itertools import product

from cornerplane.conflicts import common_corners, find_conflict, is_conflict
from cornerplane.paths import parse_path, path_kind
from tests.oracles import certificates, in_conflict, paths_of

SMALL = paths_of((2, 2))
WIDE = (8, 8)


def expected_certificate(path, other):
    """Point 11, word by word."""
    for k, corner in enumerate(path):
        before = [c for c in path[:k] if c in other]
        behind = [c for c in path[k + 1:] if c in other]
        if corner not in other and before and behind:
            return (path[k - 1], corner, behind[0])
    return None


class FindConflictTest(unittest.TestCase):
    def test_the_example_of_the_interface(self):
        path = ((0, 0), (1, 0), (1, 1))
        other = ((0, 0), (0, 1), (1, 1))
        self.assertEqual(find_conflict(path, other), ((0, 0), (1, 0), (1, 1)))
        self.assertEqual(find_conflict(other, path), ((0, 0), (0, 1), (1, 1)))

    def test_the_first_corner_that_leaves_counts(self):
        path = parse_path(WIDE, "0,0 EENNEENN")
        other = parse_path(WIDE, "1,0 NEEENN")
        self.assertEqual(find_conflict(path, other), ((1, 0), (2, 0), (2, 1)))
        self.assertEqual(find_conflict(other, path), ((1, 0), (1, 1), (2, 1)))

    def test_a_corner_before_the_first_common_one_does_not_count(self):
        path = parse_path(WIDE, "0,0 EENEEE")
        other = parse_path(WIDE, "2,0 EEEN")
        self.assertEqual(find_conflict(path, other), ((2, 0), (2, 1), (5, 1)))
        self.assertEqual(find_conflict(other, path), ((2, 0), (3, 0), (5, 1)))

    def test_several_corners_outside(self):
        path = parse_path(WIDE, "0,0 EEENNN")
        other = parse_path(WIDE, "0,0 NNNEEE")
        self.assertEqual(find_conflict(path, other), ((0, 0), (1, 0), (3, 3)))

    def test_no_conflict(self):
        for one, two in (
            ("0,0 EE", "0,1 EE"),
            ("0,0 EN", "1,1 EN"),
            ("0,0 EENN", "1,0 ENNE"),
            ("0,0 EN", "0,0 EN"),
            ("0,0", "0,0"),
            ("0,0", "5,5"),
            ("0,0 EEE", "1,0 E"),
            ("0,0 EN", "0,1 ES"),
        ):
            path, other = parse_path(WIDE, one), parse_path(WIDE, two)
            self.assertIsNone(find_conflict(path, other))
            self.assertIsNone(find_conflict(other, path))

    def test_every_two_paths_of_a_small_board(self):
        for path, other in product(SMALL, repeat=2):
            found = find_conflict(path, other)
            self.assertEqual(found, expected_certificate(path, other))
            self.assertEqual(found is not None, in_conflict(path, other))
            self.assertEqual(found is not None, find_conflict(other, path) is not None)
            if found is not None:
                self.assertEqual(path_kind(path), path_kind(other))

    def test_long_paths(self):
        board = (3, 2)
        ends = [path for path in paths_of(board) if len(path) == 6]
        for path, other in product(ends, repeat=2):
            self.assertEqual(find_conflict(path, other), expected_certificate(path, other))


class IsConflictTest(unittest.TestCase):
    def test_exactly_the_certificates_are_accepted(self):
        board_and_beside = list(product(range(-1, 3), repeat=2))
        paths = [path for path in paths_of((1, 1)) if len(path) > 1]
        for path, other in product(paths, repeat=2):
            valid = set(certificates(path, other))
            for tried in product(board_and_beside, repeat=3):
                self.assertIs(is_conflict(path, other, tried), tried in valid)

    def test_another_certificate_than_that_of_find_conflict(self):
        path = parse_path(WIDE, "0,0 EEENNN")
        other = parse_path(WIDE, "0,0 NNNEEE")
        self.assertIs(is_conflict(path, other, ((0, 0), (3, 2), (3, 3))), True)
        self.assertIs(is_conflict(path, other, ((3, 3), (2, 0), (0, 0))), True)

    def test_refused_certificates(self):
        path = ((0, 0), (1, 0), (1, 1))
        other = ((0, 0), (0, 1), (1, 1))
        for tried in (
            ((0, 0), (0, 1), (1, 1)),
            ((0, 0), (0, 0), (1, 1)),
            ((0, 0), (1, 0), (0, 0)),
            ((1, 0), (1, 0), (1, 0)),
            ((1, 0), (0, 0), (1, 1)),
            ((-1, -1), (1, 0), (1, 1)),
            ((0, 0), (-1, 0), (1, 1)),
            ((0, 0), (1, 0), (100, 10 ** 40)),
        ):
            self.assertIs(is_conflict(path, other, tried), False)
        self.assertIs(is_conflict(path, path, ((0, 0), (1, 0), (1, 1))), False)

    def test_the_corner_must_lie_strictly_between(self):
        path = parse_path(WIDE, "0,0 EENNEE")
        other = parse_path(WIDE, "1,0 ENN")
        self.assertIsNone(find_conflict(path, other))
        self.assertIs(is_conflict(path, other, ((1, 0), (0, 0), (2, 2))), False)
        self.assertIs(is_conflict(path, other, ((1, 0), (3, 2), (2, 2))), False)

    def test_every_found_conflict_is_accepted(self):
        for path, other in product(SMALL, repeat=2):
            found = find_conflict(path, other)
            if found is not None:
                self.assertIs(is_conflict(path, other, found), True)
                self.assertIs(is_conflict(path, other, found[::-1]), True)


class CommonCornersTest(unittest.TestCase):
    def test_in_the_order_of_the_first_path(self):
        rising = ((0, 0), (0, 1), (1, 1), (1, 2))
        falling = ((0, 2), (0, 1), (0, 0), (1, 0))
        self.assertEqual(common_corners(rising, falling), [(0, 0), (0, 1)])
        self.assertEqual(common_corners(falling, rising), [(0, 1), (0, 0)])

    def test_every_two_paths_of_a_small_board(self):
        for path, other in product(SMALL, repeat=2):
            self.assertEqual(common_corners(path, other), [c for c in path if c in other])

    def test_a_change_to_the_result_changes_no_later_answer(self):
        path = ((0, 0), (1, 0))
        found = common_corners(path, path)
        found.clear()
        self.assertEqual(common_corners(path, path), [(0, 0), (1, 0)])


if __name__ == "__main__":
    unittest.main()
