"""Points 34 and 35 and the interface of cornerplane/changes.py."""

import random
import unittest

from cornerplane.changes import amend, amend_in_order, changed_pairs, conflicting_pairs
from cornerplane.conflicts import find_conflict
from cornerplane.errors import Conflict
from cornerplane.filling import fill
from cornerplane.planes import Plane
from cornerplane.strokes import keep_in_order
from tests.oracles import filled, in_conflict, pairs_of_half, paths_of, tables_of
from tests.samples import long_stroke, many_long_strokes, some_plane, some_strokes

BOARDS = [(1, 1), (2, 1), (1, 2), (3, 2), (2, 4), (4, 4), (0, 3), (3, 0), (0, 0)]
EAST = ((0, 0), (1, 0), (1, 1))
NORTH = ((0, 0), (0, 1), (1, 1))


def tables(plane):
    return (plane.rising, plane.falling)


def all_pairs(board):
    return pairs_of_half(board, "rising") + pairs_of_half(board, "falling")


def pairs_in_conflict(plane, strokes):
    return [
        pair for pair in all_pairs(plane.board)
        if any(in_conflict(tuple(plane.line(*pair)), stroke) for stroke in strokes)
    ]


def pairs_that_differ(before, after):
    return [pair for pair in all_pairs(before.board) if before.line(*pair) != after.line(*pair)]


class AmendTest(unittest.TestCase):
    def test_a_small_plane(self):
        plane = Plane((2, 1), "EEE", "SSS")
        self.assertEqual(tables(amend(plane, [NORTH])), ("NEE", "SSS"))
        self.assertEqual(tables(amend(plane, [EAST])), tables(plane))
        self.assertEqual(tables(amend(plane, [((0, 1), (1, 1), (2, 1), (2, 0))])), ("EEE", "SEE"))
        self.assertEqual(conflicting_pairs(plane, [NORTH]), [((0, 0), (1, 1))])
        self.assertEqual(changed_pairs(plane, amend(plane, [NORTH])), [((0, 0), (1, 1))])

    def test_no_strokes_points_and_straight_strokes_change_nothing(self):
        for board in BOARDS:
            plane = some_plane(board, 4)
            for strokes in ([], [((0, 0),)], [tuple((x, 0) for x in range(board[0] + 1))]):
                self.assertEqual(tables(amend(plane, strokes)), tables(plane))
                self.assertEqual(amend(plane, strokes).board, board)
                self.assertEqual(conflicting_pairs(plane, strokes), [])

    def test_it_is_fill_with_the_plane_preferred(self):
        for board in BOARDS:
            for seed in range(5):
                plane = some_plane(board, seed)
                strokes = some_strokes(board, seed + 9, 3 * seed)
                lines, _ = filled(board, strokes, (), plane)
                for given in (list(strokes), tuple(strokes)):
                    self.assertEqual(tables(amend(plane, given)), tables_of(board, lines))

    def test_exactly_the_lines_in_conflict_change(self):
        for board in BOARDS:
            for seed in range(5):
                plane = some_plane(board, seed)
                strokes = some_strokes(board, seed + 30, 1 + 2 * seed)
                expected = pairs_in_conflict(plane, strokes)
                after = amend(plane, strokes)
                self.assertEqual(conflicting_pairs(plane, strokes), expected)
                self.assertEqual(pairs_that_differ(plane, after), expected)
                self.assertEqual(changed_pairs(plane, after), expected)
                for stroke in strokes:
                    self.assertIs(after.has_path(stroke), True)

    def test_the_largest_board(self):
        plane = some_plane((8, 8), 1)
        strokes = many_long_strokes((8, 8), 5, 40)
        expected = pairs_in_conflict(plane, strokes)
        self.assertTrue(expected)
        self.assertEqual(conflicting_pairs(plane, strokes), expected)
        self.assertEqual(changed_pairs(plane, amend(plane, strokes)), expected)

    def test_strokes_in_conflict_are_refused(self):
        paths = paths_of((3, 2))
        plane = some_plane((3, 2), 6)
        refused = 0
        for seed in range(30):
            strokes = random.Random(seed).choices(paths, k=8)
            found = [
                (j, i) for j in range(8) for i in range(j) if in_conflict(strokes[i], strokes[j])
            ]
            if not found:
                continue
            j, i = min(found)
            refused += 1
            for given in (list(strokes), tuple(strokes)):
                with self.assertRaises(Conflict) as caught:
                    amend(plane, given)
                error = caught.exception
                self.assertEqual((error.first, error.second), (i, j))
                self.assertEqual(error.certificate, find_conflict(strokes[i], strokes[j]))
        self.assertGreater(refused, 10)


class PairsTest(unittest.TestCase):
    def test_conflicting_pairs_takes_strokes_in_conflict(self):
        for board in BOARDS:
            paths = paths_of(board)
            for seed in range(5):
                strokes = random.Random(seed).choices(paths, k=4 * seed)
                plane = some_plane(board, seed + 2)
                for given in (list(strokes), tuple(strokes)):
                    self.assertEqual(
                        conflicting_pairs(plane, given), pairs_in_conflict(plane, strokes)
                    )
        plane = Plane((1, 1), "E", "E")
        self.assertEqual(conflicting_pairs(plane, [EAST, NORTH]), [((0, 0), (1, 1))])

    def test_the_rising_pairs_come_first(self):
        plane = Plane((2, 1), "EEE", "EEE")
        other = Plane((2, 1), "NNE", "SSE")
        expected = [
            ((0, 0), (1, 1)), ((0, 0), (2, 1)), ((0, 1), (1, 0)), ((0, 1), (2, 0)),
        ]
        self.assertEqual(changed_pairs(plane, other), expected)
        self.assertEqual(changed_pairs(other, plane), expected)

    def test_changed_pairs_of_any_two_planes(self):
        for board in BOARDS:
            for seed in range(6):
                before, after = some_plane(board, seed), some_plane(board, seed + 40)
                self.assertEqual(changed_pairs(before, after), pairs_that_differ(before, after))
                self.assertEqual(changed_pairs(before, before), [])
                again = Plane(board, before.rising, before.falling)
                self.assertEqual(changed_pairs(before, again), [])

    def test_a_later_step_counts_too(self):
        before = Plane((2, 1), "EEE", "EEE")
        after = Plane((2, 1), "EEN", "EEE")
        # The lines from (0, 0) to (2, 1) both begin east.
        self.assertEqual(changed_pairs(before, after), [((0, 0), (2, 1)), ((1, 0), (2, 1))])


class AmendInOrderTest(unittest.TestCase):
    def test_no_strokes(self):
        for board in BOARDS:
            plane = some_plane(board, 3)
            after, kept, refused = amend_in_order(plane, [])
            self.assertEqual((after.board, *tables(after)), (board, *tables(plane)))
            self.assertEqual((kept, refused), ([], []))

    def test_a_refused_stroke_changes_nothing(self):
        plane = Plane((1, 1), "E", "E")
        after, kept, refused = amend_in_order(plane, [NORTH, EAST])
        self.assertEqual(tables(after), ("N", "E"))
        self.assertEqual(kept, [0])
        self.assertEqual(refused, [(1, 0, ((0, 0), (1, 0), (1, 1)))])

    def test_the_kept_strokes_amend_in_turn(self):
        for board in BOARDS:
            paths = paths_of(board)
            for seed in range(6):
                strokes = random.Random(seed + 3).choices(paths, k=3 * seed)
                plane = some_plane(board, seed)
                lists = keep_in_order(strokes)
                expected = plane
                for index in lists[0]:
                    lines, _ = filled(board, [strokes[index]], (), expected)
                    expected = Plane(board, *tables_of(board, lines))
                for given in (list(strokes), tuple(strokes)):
                    result = amend_in_order(plane, given)
                    self.assertIsInstance(result, tuple)
                    self.assertEqual(tables(result[0]), tables(expected))
                    self.assertEqual(result[1:], lists)

    def test_kept_strokes_stay_lines_and_exactly_their_conflicts_change(self):
        for board in BOARDS + [(8, 8)]:
            chance = random.Random(board[0] + 10 * board[1])
            paths = [((0, 0),)] if board == (8, 8) else paths_of(board)
            for seed in range(2):
                strokes = chance.choices(paths, k=10)
                strokes += [long_stroke(board, chance) for _ in range(30)]
                plane = some_plane(board, seed)
                after, kept, _ = amend_in_order(plane, strokes)
                for index in kept:
                    self.assertIs(after.has_path(strokes[index]), True)
                self.assertEqual(
                    changed_pairs(plane, after),
                    pairs_in_conflict(plane, [strokes[index] for index in kept]),
                )


class ArgumentsTest(unittest.TestCase):
    def test_arguments_stay_as_they_were_and_results_are_new(self):
        plane = fill((3, 2), [EAST])
        before = tables(plane)
        strokes = [NORTH, EAST, ((0, 2), (1, 2), (1, 1))]
        for ask in (amend_in_order, conflicting_pairs):
            first = ask(plane, strokes)
            self.assertEqual(strokes, [NORTH, EAST, ((0, 2), (1, 2), (1, 1))])
            self.assertEqual(tables(plane), before)
            for part in (first[1:] if ask is amend_in_order else [first]):
                part.clear()
        after, kept, refused = amend_in_order(plane, strokes)
        self.assertEqual((kept, len(refused)), ([0, 2], 1))
        self.assertEqual(conflicting_pairs(plane, strokes), pairs_in_conflict(plane, strokes))
        changed = changed_pairs(plane, after)
        expected = list(changed)
        self.assertTrue(expected)
        changed.clear()
        self.assertEqual(changed_pairs(plane, after), expected)
        one = amend(plane, strokes[:1])
        lines = tables(one)
        strokes.clear()
        self.assertEqual(tables(one), lines)


if __name__ == "__main__":
    unittest.main()
