"""Point 30 and the interface of cornerplane/counting.py."""

import unittest
from itertools import product

from cornerplane.counting import count_planes, half_tables
from cornerplane.errors import TooLarge
from cornerplane.paths import path_kind
from tests.oracles import (
    conflict_free_families, consistent_tables, in_conflict, pairs_of_half, paths_of, table_path,
)

EAST = ((0, 0), (1, 0), (1, 1))
NORTH = ((0, 0), (0, 1), (1, 1))
DOWN = ((0, 1), (1, 1), (1, 0))
UNDER = ((0, 1), (0, 0), (1, 0))


def tables_with(board, half, strokes):
    """The consistent tables whose paths between the ends of the strokes are the strokes."""
    own = [stroke for stroke in strokes if path_kind(stroke) == half]
    return [
        letters for letters in consistent_tables(board, half)
        if all(table_path(board, half, letters, s[0], s[-1]) == s for s in own)
    ]


class HalfTablesTest(unittest.TestCase):
    def test_the_example_of_the_interface(self):
        self.assertEqual(
            half_tables((2, 1), "rising", []), ["EEE", "EEN", "NEE", "NNE", "NNN"]
        )
        self.assertEqual(count_planes((2, 1), []), 25)

    def test_all_tables_of_small_boards(self):
        for board in ((1, 1), (2, 1), (1, 2), (3, 1), (1, 3), (2, 2)):
            for half in ("rising", "falling"):
                self.assertEqual(half_tables(board, half, []), consistent_tables(board, half))

    def test_all_tables_of_boards_of_6_cells(self):
        for board, half in (((3, 2), "rising"), ((2, 3), "falling")):
            self.assertEqual(half_tables(board, half, []), conflict_free_families(board, half))
        for board in ((6, 1), (1, 6)):
            # On a board of one row, the tables are counted by the Catalan numbers.
            for half in ("rising", "falling"):
                tables = half_tables(board, half, [])
                self.assertEqual(len(tables), 429)
                self.assertEqual(tables, sorted(set(tables)))

    def test_tables_with_every_stroke(self):
        for board in ((2, 1), (1, 2), (2, 2)):
            for path in paths_of(board):
                for half in ("rising", "falling"):
                    self.assertEqual(
                        half_tables(board, half, [path]), tables_with(board, half, [path])
                    )

    def test_tables_with_two_strokes(self):
        board = (2, 1)
        for one, two in product(paths_of(board), repeat=2):
            for half in ("rising", "falling"):
                strokes = (one, two)
                tables = half_tables(board, half, strokes)
                self.assertEqual(tables, tables_with(board, half, strokes))
                if in_conflict(one, two) and path_kind(one) == half:
                    self.assertEqual(tables, [])
                else:
                    self.assertNotEqual(tables, [])

    def test_strokes_in_conflict_empty_their_own_half_only(self):
        strokes = [EAST, NORTH, DOWN]
        self.assertEqual(half_tables((2, 1), "rising", strokes), [])
        self.assertEqual(
            half_tables((2, 1), "falling", strokes), tables_with((2, 1), "falling", [DOWN])
        )
        self.assertEqual(half_tables((2, 1), "falling", [DOWN, EAST, UNDER]), [])

    def test_a_half_without_pairs(self):
        for board in ((0, 0), (0, 8), (8, 0)):
            for half in ("rising", "falling"):
                self.assertEqual(half_tables(board, half, []), [""])
                self.assertEqual(half_tables(board, half, [((0, 0),)]), [""])
            self.assertEqual(count_planes(board, []), 1)

    def test_boards_that_are_too_large(self):
        for board in ((7, 1), (1, 7), (4, 2), (2, 4), (3, 3), (8, 8)):
            for strokes in ([], [EAST], [EAST, NORTH]):
                with self.assertRaises(TooLarge):
                    half_tables(board, "rising", strokes)
                with self.assertRaises(TooLarge):
                    half_tables(board, "falling", strokes)
                with self.assertRaises(TooLarge):
                    count_planes(board, strokes)


class CountPlanesTest(unittest.TestCase):
    def test_the_counts_are_the_products_of_the_halves(self):
        for board in ((1, 1), (2, 1), (1, 2), (2, 2)):
            for strokes in ([], [EAST], [DOWN], [EAST, DOWN], [NORTH, UNDER], [EAST, EAST]):
                expected = len(tables_with(board, "rising", strokes)) * len(
                    tables_with(board, "falling", strokes)
                )
                self.assertEqual(count_planes(board, strokes), expected)
        self.assertEqual(count_planes((1, 1), []), 4)
        self.assertEqual(count_planes((3, 2), []), 526 * 526)

    def test_strokes_in_conflict_are_in_no_plane(self):
        self.assertEqual(count_planes((2, 1), [EAST, NORTH]), 0)
        self.assertEqual(count_planes((2, 1), [DOWN, UNDER]), 0)
        self.assertEqual(count_planes((2, 1), [EAST, DOWN, EAST]), 2 * 2)

    def test_points_and_straight_strokes_exclude_no_plane(self):
        strokes = [path for path in paths_of((2, 1)) if path_kind(path) in ("point", "straight")]
        self.assertEqual(count_planes((2, 1), strokes), 25)


class ArgumentsTest(unittest.TestCase):
    def test_arguments_stay_as_they_were_and_results_are_new(self):
        strokes = [EAST, DOWN]
        first = half_tables((2, 1), "rising", strokes)
        expected = list(first)
        self.assertEqual(strokes, [EAST, DOWN])
        first.clear()
        self.assertEqual(half_tables((2, 1), "rising", strokes), expected)
        self.assertEqual(half_tables((2, 1), "rising", tuple(strokes)), expected)
        self.assertEqual(count_planes((2, 1), strokes), count_planes((2, 1), tuple(strokes)))
        self.assertEqual(strokes, [EAST, DOWN])

    def test_every_table_fits_its_pairs(self):
        for half, letters in (("rising", "EN"), ("falling", "ES")):
            for table in half_tables((2, 2), half, [EAST]):
                self.assertEqual(len(table), len(pairs_of_half((2, 2), half)))
                self.assertLessEqual(set(table), set(letters))


if __name__ == "__main__":
    unittest.main()
