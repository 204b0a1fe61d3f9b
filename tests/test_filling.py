"""Points 26 to 29 and the interface of cornerplane/filling.py."""

import random
import unittest
from itertools import product

from cornerplane.conflicts import find_conflict
from cornerplane.errors import Conflict, NotALine
from cornerplane.filling import choices_of, fill, free_pairs
from cornerplane.planes import Plane
from cornerplane.strokes import compatible
from tests.oracles import (
    consistent_tables, filled, in_conflict, pairs_of_half, paths_of, tables_of,
)
from tests.samples import many_long_strokes, some_plane, some_strokes

BOARDS = [(1, 1), (2, 1), (1, 2), (3, 2), (2, 4), (4, 4), (0, 3), (3, 0), (0, 0)]
EAST = ((0, 0), (1, 0), (1, 1))
NORTH = ((0, 0), (0, 1), (1, 1))
DOWN = ((0, 1), (1, 1), (1, 0))


def tables(plane):
    return (plane.rising, plane.falling)


class FillTest(unittest.TestCase):
    def test_the_example_of_the_interface(self):
        plane = fill((2, 1), [NORTH])
        self.assertEqual(plane.rising, "NEE")
        self.assertEqual(plane.falling, "EEE")
        self.assertEqual(choices_of(plane, [NORTH]), [0, 0, 0, 0])
        self.assertEqual(
            free_pairs(plane, [NORTH]),
            [((1, 0), (2, 1)), ((0, 0), (2, 1)), ((0, 1), (1, 0)), ((1, 1), (2, 0))],
        )

    def test_without_strokes_every_line_begins_east(self):
        plane = fill((8, 8), [])
        self.assertEqual(tables(plane), ("E" * 1296, "E" * 1296))

    def test_boards_with_a_side_of_0(self):
        for board in ((0, 0), (0, 8), (8, 0)):
            plane = fill(board, [((0, 0),)])
            self.assertEqual((plane.board, *tables(plane)), (board, "", ""))
            self.assertEqual(free_pairs(plane, []), [])
            self.assertEqual(choices_of(plane, []), [])

    def test_the_order_and_the_meaning_of_the_choices(self):
        self.assertEqual(tables(fill((2, 1), [], choices=[1])), ("NEE", "EEE"))
        # (0,0) to (1,1) east and (1,0) to (2,1) north leave only east for (0,0) to (2,1).
        self.assertEqual(tables(fill((2, 1), [], choices=[0, 1])), ("EEN", "EEE"))
        self.assertEqual(tables(fill((2, 1), [], choices=[0, 1, 1])), ("EEN", "SEE"))
        self.assertEqual(tables(fill((2, 1), [], choices=[1, 0, 1])), ("NNE", "EEE"))

    def test_left_over_choices_are_ignored(self):
        short = fill((2, 1), [NORTH], choices=[1, 0, 1])
        plane = fill((2, 1), [NORTH], choices=[1, 0, 1, 0] + [1] * 300)
        count = len(free_pairs(plane, [NORTH]))
        self.assertEqual(tables(fill((2, 1), [NORTH], choices=choices_of(plane, [NORTH]))),
                         tables(plane))
        self.assertLess(count, 304)
        self.assertEqual(short.rising, plane.rising)
        self.assertEqual(tables(fill((0, 2), [], choices=[1, 1])), ("", ""))

    def test_word_by_word_against_the_document(self):
        for board in BOARDS:
            for seed in range(8):
                chance = random.Random(seed)
                strokes = some_strokes(board, seed, seed * 2)
                choices = [chance.randrange(2) for _ in range(chance.choice((0, 3, 20, 400)))]
                prefer = some_plane(board, seed + 50) if chance.random() < 0.6 else None
                lines, _ = filled(board, strokes, choices, prefer)
                plane = fill(board, strokes, choices=choices, prefer=prefer)
                self.assertEqual(tables(plane), tables_of(board, lines))
                for pair in lines:
                    self.assertEqual(plane.line(*pair), list(lines[pair]))

    def test_the_preferred_plane_decides_when_the_choices_are_used(self):
        for board in BOARDS:
            for seed in range(4):
                prefer = some_plane(board, seed)
                self.assertEqual(tables(fill(board, [], prefer=prefer)), tables(prefer))
                strokes = some_strokes(board, seed, 4)
                lines, _ = filled(board, strokes, (1, 0, 1), prefer)
                plane = fill(board, strokes, choices=(1, 0, 1), prefer=prefer)
                self.assertEqual(tables(plane), tables_of(board, lines))

    def test_every_stroke_is_a_line_whatever_the_choices_and_the_preference(self):
        for board in BOARDS + [(8, 8)]:
            for seed in range(3):
                if board == (8, 8):
                    strokes = many_long_strokes(board, seed, 40)
                else:
                    strokes = some_strokes(board, seed, 12)
                chance = random.Random(seed)
                choices = [chance.randrange(2) for _ in range(seed * 100)]
                plane = fill(board, strokes, choices=choices, prefer=some_plane(board, seed + 9))
                for stroke in strokes:
                    self.assertIs(plane.has_path(stroke), True)

    def test_strokes_are_lines_of_some_plane_exactly_if_they_are_compatible(self):
        board = (2, 1)
        planes = [
            Plane(board, rising, falling)
            for rising in consistent_tables(board, "rising")
            for falling in consistent_tables(board, "falling")
        ]
        paths = paths_of(board)
        for one, two in product(paths, repeat=2):
            held = any(plane.has_path(one) and plane.has_path(two) for plane in planes)
            self.assertEqual(held, compatible([one, two]))

    def test_equal_strokes_points_and_straight_strokes(self):
        strokes = [NORTH, ((1, 1),), ((0, 0), (1, 0)), NORTH, ((1, 0), (1, 1))]
        self.assertEqual(tables(fill((2, 1), strokes)), tables(fill((2, 1), [NORTH])))


class ConflictTest(unittest.TestCase):
    def refused(self, strokes, first, second):
        for given in (list(strokes), tuple(strokes)):
            with self.assertRaises(Conflict) as caught:
                fill((3, 2), given)
            error = caught.exception
            self.assertEqual((error.first, error.second), (first, second))
            self.assertEqual(
                error.certificate, find_conflict(strokes[first], strokes[second])
            )

    def test_two_strokes_in_conflict(self):
        self.refused([EAST, NORTH], 0, 1)
        self.refused([NORTH, EAST], 0, 1)
        self.refused([DOWN, NORTH, NORTH, EAST], 1, 3)

    def test_the_least_second_index_counts_first(self):
        long_one = ((0, 0), (1, 0), (2, 0), (2, 1))
        other = ((1, 0), (1, 1), (2, 1))
        # Stroke 0 conflicts with stroke 3 only, stroke 1 with stroke 2.
        self.refused([other, EAST, NORTH, long_one], 1, 2)

    def test_some_lists_of_strokes(self):
        paths = paths_of((3, 2))
        for seed in range(40):
            strokes = random.Random(seed).choices(paths, k=12)
            found = [
                (j, i) for j in range(12) for i in range(j) if in_conflict(strokes[i], strokes[j])
            ]
            if found:
                self.refused(strokes, min(found)[1], min(found)[0])
            else:
                fill((3, 2), strokes)


class ChoicesTest(unittest.TestCase):
    def test_free_pairs_in_the_order_of_filling(self):
        for board in BOARDS:
            for seed in range(6):
                strokes = some_strokes(board, seed, seed * 2)
                plane = fill(board, strokes, prefer=some_plane(board, seed + 20))
                _, free = filled(board, strokes, (), plane)
                self.assertEqual(free_pairs(plane, strokes), [pair for pair, _ in free])
                self.assertEqual(choices_of(plane, strokes), [number for _, number in free])

    def test_the_choices_lead_to_the_plane(self):
        for board in BOARDS + [(8, 8)]:
            for seed in range(3):
                plane = some_plane(board, seed)
                self.assertEqual(
                    tables(fill(board, [], choices=choices_of(plane, []))), tables(plane)
                )
                strokes = [
                    tuple(plane.line(p, q))
                    for p, q in pairs_of_half(board, "rising")[::7]
                    + pairs_of_half(board, "falling")[::5]
                ][:40]
                choices = choices_of(plane, tuple(strokes))
                self.assertEqual(tables(fill(board, strokes, choices=choices)), tables(plane))
                prefer = some_plane(board, seed + 1)
                self.assertEqual(
                    tables(fill(board, strokes, choices=choices, prefer=prefer)), tables(plane)
                )

    def test_each_plane_comes_from_exactly_one_row_of_choices(self):
        board = (2, 1)
        for strokes in ([], [NORTH], [EAST, DOWN], [((0, 1), (0, 0), (1, 0), (2, 0))]):
            planes = [
                Plane(board, rising, falling)
                for rising in consistent_tables(board, "rising")
                for falling in consistent_tables(board, "falling")
            ]
            planes = [
                plane for plane in planes if all(plane.has_path(stroke) for stroke in strokes)
            ]
            by_tables = {tables(plane): plane for plane in planes}
            rows = {}
            for length in range(7):
                for row in product((0, 1), repeat=length):
                    plane = fill(board, strokes, choices=row)
                    if len(free_pairs(plane, strokes)) == length:
                        self.assertNotIn(tables(plane), rows)
                        rows[tables(plane)] = list(row)
            self.assertEqual(set(rows), set(by_tables))
            for key, plane in by_tables.items():
                self.assertEqual(choices_of(plane, strokes), rows[key])

    def test_a_stroke_that_is_not_a_line(self):
        plane = fill((2, 1), [NORTH])
        for strokes, index in (
            ([EAST], 0), ([NORTH, EAST], 1), ([NORTH, DOWN, EAST, EAST], 2),
        ):
            for ask in (free_pairs, choices_of):
                for given in (list(strokes), tuple(strokes)):
                    with self.assertRaises(NotALine) as caught:
                        ask(plane, given)
                    self.assertEqual(caught.exception.index, index)


class ArgumentsTest(unittest.TestCase):
    def test_arguments_stay_as_they_were(self):
        strokes, choices = [NORTH, DOWN], [1, 0, 1]
        plane = fill((3, 2), strokes, choices=choices, prefer=some_plane((3, 2), 1))
        self.assertEqual((strokes, choices), ([NORTH, DOWN], [1, 0, 1]))
        before = tables(plane)
        strokes.clear()
        choices.clear()
        self.assertEqual(tables(plane), before)
        self.assertIs(plane.has_path(NORTH), True)

    def test_lists_and_tuples(self):
        prefer = some_plane((3, 2), 2)
        for choices in ([1, 0, 1], (1, 0, 1)):
            for strokes in ([NORTH, DOWN], (NORTH, DOWN)):
                plane = fill((3, 2), strokes, choices=choices, prefer=prefer)
                expected = fill((3, 2), [NORTH, DOWN], choices=[1, 0, 1], prefer=prefer)
                self.assertEqual(tables(plane), tables(expected))

    def test_a_change_to_a_result_changes_no_later_answer(self):
        plane = fill((3, 2), [NORTH])
        for ask in (free_pairs, choices_of):
            first = ask(plane, [NORTH])
            expected = list(first)
            first.clear()
            self.assertEqual(ask(plane, [NORTH]), expected)

    def test_the_preferred_plane_stays_as_it_was(self):
        prefer = some_plane((3, 2), 3)
        before = tables(prefer)
        fill((3, 2), [NORTH], prefer=prefer)
        self.assertEqual(tables(prefer), before)

    def test_choices_and_prefer_are_passed_by_name(self):
        with self.assertRaises(TypeError):
            fill((2, 1), [], [1])


if __name__ == "__main__":
    unittest.main()
