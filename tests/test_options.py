"""Points 31 to 33 and the interface of cornerplane/options.py."""

import random
import unittest
from itertools import product
from math import comb

from cornerplane.conflicts import find_conflict
from cornerplane.errors import TooFar
from cornerplane.options import (
    blockers, is_possible, is_sure_certificate, possible_paths, sure_certificate, sure_line,
)
from cornerplane.planes import Plane
from tests.oracles import (
    board_corners, certificates, consistent_tables, in_conflict, letters_of, paths_of,
    paths_with_ends, straight,
)
from tests.samples import many_long_strokes, some_strokes

EAST = ((0, 0), (1, 0), (1, 1))
NORTH = ((0, 0), (0, 1), (1, 1))
DOWN = ((0, 1), (0, 0), (1, 0))
BOARD = (3, 2)
CERTIFICATE = ((0, 0), (1, 0), (1, 1))


def possible(board, strokes, p, q):
    return [
        path for path in paths_with_ends(board, p, q)
        if not any(in_conflict(path, stroke) for stroke in strokes)
    ]


def first_blocker(strokes, path):
    index = [in_conflict(path, stroke) for stroke in strokes].index(True)
    return (path, index, find_conflict(path, strokes[index]))


class BlockersTest(unittest.TestCase):
    def test_without_strokes_nothing_blocks(self):
        for path in (EAST, ((0, 0),), ((0, 0), (1, 0))):
            self.assertEqual(blockers([], path), [])
            self.assertIs(is_possible([], path), True)

    def test_the_certificate_is_that_of_the_path(self):
        self.assertEqual(blockers([NORTH], EAST), [(0, ((0, 0), (1, 0), (1, 1)))])
        self.assertEqual(blockers([EAST], NORTH), [(0, ((0, 0), (0, 1), (1, 1)))])
        self.assertEqual(
            blockers([DOWN, NORTH, EAST, NORTH], EAST), [(1, CERTIFICATE), (3, CERTIFICATE)]
        )
        self.assertIs(is_possible([DOWN, NORTH], EAST), False)
        self.assertIs(is_possible([DOWN, EAST], EAST), True)

    def test_all_paths_beside_some_strokes(self):
        for seed in range(12):
            strokes = some_strokes(BOARD, seed, 8)
            for path in paths_of(BOARD):
                expected = [
                    (index, find_conflict(path, stroke))
                    for index, stroke in enumerate(strokes) if in_conflict(path, stroke)
                ]
                for given in (list(strokes), tuple(strokes)):
                    self.assertEqual(blockers(given, path), expected)
                    self.assertIs(is_possible(given, path), expected == [])

    def test_points_straight_paths_and_the_other_half_are_never_blocked(self):
        strokes = some_strokes(BOARD, 3, 40)
        rising = [stroke for stroke in strokes if stroke[0][1] < stroke[-1][1]]
        for path in paths_of(BOARD):
            if path[0][0] == path[-1][0] or path[0][1] == path[-1][1]:
                self.assertIs(is_possible(strokes, path), True)
            if path[0][1] > path[-1][1]:
                self.assertEqual(blockers(rising, path), [])

    def test_possible_paths_are_exactly_the_lines_of_planes_with_the_strokes(self):
        board = (2, 2)
        tables = [
            [Plane(board, table, "E" * 9) for table in consistent_tables(board, "rising")],
            [Plane(board, "E" * 9, table) for table in consistent_tables(board, "falling")],
        ]
        for half, planes in zip(("rising", "falling"), tables):
            paths = [
                path for path in paths_of(board)
                if (path[0][1] <= path[-1][1] if half == "rising" else path[0][1] >= path[-1][1])
            ]
            for seed in range(12):
                strokes = [stroke for stroke in some_strokes(board, seed, 5) if stroke in paths]
                held = [
                    plane for plane in planes if all(plane.has_path(stroke) for stroke in strokes)
                ]
                for path in paths:
                    self.assertIs(
                        is_possible(strokes, path), any(plane.has_path(path) for plane in held)
                    )


class PossiblePathsTest(unittest.TestCase):
    def test_without_strokes_all_paths_are_possible(self):
        self.assertEqual(possible_paths([], (0, 0), (1, 1)), [EAST, NORTH])
        self.assertEqual(
            possible_paths([], (1, 0), (0, 1)), [((0, 1), (1, 1), (1, 0)), DOWN]
        )
        for p, q in product(board_corners(BOARD), repeat=2):
            self.assertEqual(possible_paths([], p, q), paths_with_ends(BOARD, p, q))

    def test_a_stroke_leaves_the_others_out(self):
        self.assertEqual(possible_paths([NORTH], (0, 0), (1, 1)), [NORTH])
        self.assertEqual(possible_paths([EAST], (1, 1), (0, 0)), [EAST])
        self.assertEqual(
            [letters_of(path) for path in possible_paths([NORTH], (0, 0), (2, 1))],
            ["EEN", "NEE"],
        )

    def test_equal_corners_and_corners_in_one_row_or_column(self):
        strokes = some_strokes(BOARD, 5, 20)
        for p, q in product(board_corners(BOARD), repeat=2):
            if p[0] == q[0] or p[1] == q[1]:
                only = straight(min(p, q), max(p, q))
                self.assertEqual(possible_paths(strokes, p, q), [only])
                self.assertEqual(sure_line(strokes, p, q), only)
                self.assertEqual(sure_certificate(strokes, p, q), [])
                self.assertIs(is_sure_certificate(strokes, only, []), True)
        self.assertEqual(sure_line([], (2, 1), (2, 1)), ((2, 1),))

    def test_some_strokes(self):
        for seed in range(16):
            strokes = some_strokes(BOARD, seed, 3 * seed)
            for p, q in product(board_corners(BOARD), repeat=2):
                expected = possible(BOARD, strokes, p, q)
                self.assertTrue(expected)
                for given in (list(strokes), tuple(strokes)):
                    self.assertEqual(possible_paths(given, p, q), expected)
                only = expected[0] if len(expected) == 1 else None
                self.assertEqual(sure_line(strokes, p, q), only)

    def test_ten_steps(self):
        for p, q in (((0, 0), (5, 5)), ((8, 0), (3, 5)), ((2, 8), (4, 0)), ((7, 3), (1, 7))):
            paths = possible_paths([], p, q)
            self.assertEqual(len(paths), comb(10, abs(p[0] - q[0])))
            self.assertEqual(len(set(paths)), len(paths))
            self.assertEqual(sorted(paths, key=letters_of), paths)
            self.assertEqual({(path[0], path[-1]) for path in paths}, {(min(p, q), max(p, q))})
            self.assertIsNone(sure_line([], p, q))
            self.assertIsNone(sure_certificate([], p, q))
            self.assertEqual(sure_line([paths[7]], p, q), paths[7])
            entries = sure_certificate([paths[7]], p, q)
            self.assertEqual(entries, [
                (path, 0, find_conflict(path, paths[7])) for path in paths if path != paths[7]
            ])
            self.assertIs(is_sure_certificate([paths[7]], paths[7], entries), True)

    def test_forty_long_strokes(self):
        strokes = many_long_strokes((8, 8), 2, 400)[:40]
        for p, q in (((0, 0), (5, 5)), ((0, 8), (6, 4))):
            expected = [path for path in possible_paths([], p, q) if is_possible(strokes, path)]
            self.assertEqual(possible_paths(strokes, p, q), expected)
            self.assertTrue(expected)

    def test_eleven_steps(self):
        for p, q in (
            ((0, 0), (6, 5)), ((6, 5), (0, 0)), ((0, 8), (5, 2)), ((3, 8), (0, 0)),
            ((0, 0), (8, 8)), ((0, 0), (0, 11)),
        ):
            for ask in (possible_paths, sure_line, sure_certificate):
                for strokes in ([], [EAST, DOWN]):
                    with self.assertRaises(TooFar):
                        ask(strokes, p, q)


class SureCertificateTest(unittest.TestCase):
    def test_one_stroke(self):
        self.assertEqual(sure_certificate([NORTH], (0, 0), (1, 1)), [(EAST, 0, CERTIFICATE)])
        self.assertEqual(sure_certificate([DOWN, NORTH, NORTH], (1, 1), (0, 0)),
                         [(EAST, 1, CERTIFICATE)])
        self.assertIsNone(sure_certificate([NORTH], (0, 0), (2, 1)))

    def test_some_strokes(self):
        sure = 0
        for seed in range(30):
            strokes = some_strokes(BOARD, seed, 20)
            for p, q in product(board_corners(BOARD), repeat=2):
                left = possible(BOARD, strokes, p, q)
                entries = sure_certificate(tuple(strokes), p, q)
                if len(left) > 1:
                    self.assertIsNone(entries)
                    continue
                others = [path for path in paths_with_ends(BOARD, p, q) if path != left[0]]
                self.assertEqual(entries, [first_blocker(strokes, path) for path in others])
                self.assertIs(is_sure_certificate(strokes, left[0], entries), True)
                sure += len(others) > 3
        self.assertGreater(sure, 20)


class IsSureCertificateTest(unittest.TestCase):
    """All the paths from (0, 0) to (2, 1) but `path` conflict with one of the strokes."""

    strokes = [DOWN, NORTH, ((1, 0), (1, 1), (2, 1)), ((0, 0), (0, 1), (1, 1), (2, 1))]
    path = ((0, 0), (0, 1), (1, 1), (2, 1))
    een = ((0, 0), (1, 0), (2, 0), (2, 1))
    ene = ((0, 0), (1, 0), (1, 1), (2, 1))

    def accepts(self, entries, strokes=None, path=None):
        given = self.strokes if strokes is None else strokes
        answers = {
            is_sure_certificate(kind(given), path or self.path, other(entries))
            for kind in (list, tuple) for other in (list, tuple)
        }
        self.assertEqual(len(answers), 1)
        return answers.pop()

    def entries(self):
        return sure_certificate(self.strokes, (0, 0), (2, 1))

    def test_the_right_ones_in_any_order(self):
        entries = self.entries()
        self.assertEqual([entry[:2] for entry in entries], [(self.een, 2), (self.ene, 1)])
        self.assertIs(self.accepts(entries), True)
        self.assertIs(self.accepts(entries[::-1]), True)

    def test_every_stroke_and_certificate_that_shows_the_conflict(self):
        for index, stroke in enumerate(self.strokes):
            for certificate in product(board_corners((2, 1)), repeat=3):
                entries = [self.entries()[0], (self.ene, index, certificate)]
                good = certificate in certificates(self.ene, stroke)
                self.assertIs(self.accepts(entries), good)

    def test_entries_left_out_or_twice_or_of_another_path(self):
        first, second = self.entries()
        for entries in (
            [], [first], [second], [first, second, second], [first, first], [second, second],
            [first, second, first], [first, (self.path, *second[1:])],
            [first, (EAST, 1, CERTIFICATE)], [first, second, (EAST, 1, CERTIFICATE)],
            [first, second, (self.path, 1, CERTIFICATE)],
            [first, ((), *second[1:])], [first, (self.ene[::-1], *second[1:])],
        ):
            self.assertIs(self.accepts(entries), False)

    def test_indexes_that_are_no_stroke(self):
        first, second = self.entries()
        # From behind, -3 would be the right stroke.
        for index in (-3, -1, -4, -5, 4, 5, 10 ** 30, -10 ** 30):
            self.assertIs(self.accepts([first, (self.ene, index, second[2])]), False)

    def test_certificates_that_are_no_conflict(self):
        first, second = self.entries()
        a, c, b = second[2]
        for certificate in (
            (a, c, c), (c, a, b), (a, b, c), (a, a, b), ((9, 9), c, b), (a, (-1, 0), b),
            (a, (10 ** 30, 0), b),
        ):
            self.assertIs(self.accepts([first, (self.ene, 1, certificate)]), False)
        self.assertIs(self.accepts([first, (self.ene, 1, (b, c, a))]), True)

    def test_a_path_that_conflicts_itself(self):
        # EAST and NORTH conflict: the entries are right, but neither path is possible.
        entries = [(EAST, 0, CERTIFICATE)]
        self.assertIs(self.accepts(entries, [NORTH], NORTH), True)
        self.assertIs(self.accepts(entries, [NORTH, EAST], NORTH), False)
        self.assertIs(self.accepts([(NORTH, 0, ((0, 0), (0, 1), (1, 1)))], [NORTH], EAST), False)

    def test_a_path_that_is_not_the_only_possible_one(self):
        self.assertIs(self.accepts([], [], EAST), False)
        self.assertIs(self.accepts([(NORTH, 0, CERTIFICATE)], [], EAST), False)
        self.assertIs(self.accepts([], [], ((1, 1),)), True)
        self.assertIs(self.accepts([(EAST, 0, CERTIFICATE)], [NORTH], ((1, 1),)), False)

    def test_a_path_of_more_than_ten_steps_is_no_error(self):
        chance = random.Random(1)
        letters = chance.sample("EEEEEENNNNN", 11)
        row = [(0, 0)]
        for letter in letters:
            x, y = row[-1]
            row.append((x + 1, y) if letter == "E" else (x, y + 1))
        path = tuple(row)
        self.assertIs(is_sure_certificate([path], path, []), False)
        self.assertIs(is_sure_certificate([], path, [(EAST, 0, CERTIFICATE)]), False)


class ArgumentsTest(unittest.TestCase):
    def test_arguments_stay_as_they_were_and_results_are_new(self):
        strokes = [DOWN, NORTH]
        for ask in (
            lambda: blockers(strokes, EAST),
            lambda: possible_paths(strokes, (0, 0), (2, 1)),
            lambda: sure_certificate(strokes, (0, 0), (1, 1)),
        ):
            first = ask()
            expected = list(first)
            self.assertTrue(expected)
            first.clear()
            self.assertEqual(ask(), expected)
        entries = sure_certificate(strokes, (0, 0), (1, 1))
        before = list(entries)
        self.assertIs(is_sure_certificate(strokes, NORTH, entries), True)
        self.assertEqual((strokes, entries), ([DOWN, NORTH], before))


if __name__ == "__main__":
    unittest.main()
