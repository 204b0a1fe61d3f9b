"""Points 5 to 9 and the interface of cornerplane/paths.py."""

import unittest
from itertools import product

from cornerplane.errors import BadText, NotAPath, NotOnPath, OffBoard
from cornerplane.paths import (
    format_path, normal_path, parse_path, path_kind, path_letters, path_part,
)
from tests.oracles import board_corners, paths_of

BOARD = (3, 3)
PATHS = paths_of(BOARD)


def first_fault(board, row):
    """The error of point 8 for a row of corners, as its name and its argument, or None."""
    if not row:
        return ("NotAPath", 0)
    steps = set()
    sets = [{(1, 0), (0, 1)}, {(-1, 0), (0, -1)}, {(1, 0), (0, -1)}, {(-1, 0), (0, 1)}]
    for k, corner in enumerate(row):
        if not (0 <= corner[0] <= board[0] and 0 <= corner[1] <= board[1]):
            return ("OffBoard", corner)
        if k > 0:
            steps.add((corner[0] - row[k - 1][0], corner[1] - row[k - 1][1]))
            if not any(steps <= allowed for allowed in sets):
                return ("NotAPath", k)
    return None


class NormalPathTest(unittest.TestCase):
    def refused(self, board, row, error, **attributes):
        for given in (list(row), tuple(row)):
            with self.assertRaises(error) as caught:
                normal_path(board, given)
            for name, value in attributes.items():
                self.assertEqual(getattr(caught.exception, name), value)

    def test_a_path_and_its_reverse_have_one_normal_form(self):
        for path in PATHS:
            self.assertEqual(normal_path(BOARD, list(path)), path)
            self.assertEqual(normal_path(BOARD, list(reversed(path))), path)
            self.assertEqual(normal_path(BOARD, path[::-1]), path)

    def test_the_normal_form_begins_with_the_lesser_end(self):
        self.assertEqual(normal_path((2, 2), [(2, 0), (1, 0), (1, 1)]), ((1, 1), (1, 0), (2, 0)))
        self.assertEqual(normal_path((0, 2), [(0, 2), (0, 1)]), ((0, 1), (0, 2)))

    def test_a_path_of_one_corner(self):
        self.assertEqual(normal_path((0, 0), [(0, 0)]), ((0, 0),))
        self.assertEqual(normal_path((8, 8), ((8, 8),)), ((8, 8),))

    def test_no_corner(self):
        self.refused((2, 2), [], NotAPath, index=0)

    def test_a_corner_off_the_board(self):
        self.refused((2, 2), [(3, 0)], OffBoard, corner=(3, 0))
        self.refused((2, 2), [(0, 0), (0, -1)], OffBoard, corner=(0, -1))
        self.refused((2, 2), [(2, 2), (2, 3), (9, 9)], OffBoard, corner=(2, 3))

    def test_off_board_comes_before_not_a_path_at_the_same_index(self):
        self.refused((2, 2), [(0, 0), (5, 5)], OffBoard, corner=(5, 5))
        self.refused((2, 2), [(0, 0), (1, 0), (1, 1), (1, 0), (1, -1)], NotAPath, index=3)
        self.refused((2, 2), [(0, 0), (2, 0), (3, 0)], NotAPath, index=1)

    def test_no_neighbour(self):
        self.refused((2, 2), [(0, 0), (1, 1)], NotAPath, index=1)
        self.refused((2, 2), [(0, 0), (0, 0)], NotAPath, index=1)
        self.refused((2, 2), [(0, 0), (0, 1), (2, 1)], NotAPath, index=2)

    def test_directions_that_do_not_fit(self):
        self.refused((2, 2), [(0, 0), (1, 0), (0, 0)], NotAPath, index=2)
        self.refused((2, 2), [(0, 0), (0, 1), (1, 1), (1, 0)], NotAPath, index=3)
        self.refused((2, 2), [(0, 0), (1, 0), (1, 1), (0, 1)], NotAPath, index=3)
        self.refused((2, 2), [(2, 2), (1, 2), (1, 1), (2, 1)], NotAPath, index=3)

    def test_every_short_row_near_a_small_board(self):
        board = (1, 1)
        near = list(product(range(-1, 3), repeat=2))
        for length in range(4):
            for row in product(near, repeat=length):
                fault = first_fault(board, row)
                try:
                    path = normal_path(board, list(row))
                    self.assertIsNone(fault)
                    self.assertEqual(path, min(row, row[::-1]))
                except OffBoard as error:
                    self.assertEqual(fault, ("OffBoard", error.corner))
                except NotAPath as error:
                    self.assertEqual(fault, ("NotAPath", error.index))

    def test_the_list_stays_as_it_was(self):
        row = [(2, 0), (1, 0), (1, 1)]
        path = normal_path((2, 2), row)
        self.assertEqual(row, [(2, 0), (1, 0), (1, 1)])
        row[0] = (0, 0)
        self.assertEqual(path, ((1, 1), (1, 0), (2, 0)))


class KindTest(unittest.TestCase):
    def test_kinds(self):
        self.assertEqual(path_kind(((1, 1),)), "point")
        self.assertEqual(path_kind(((0, 1), (1, 1))), "straight")
        self.assertEqual(path_kind(((1, 1), (1, 2), (1, 3))), "straight")
        self.assertEqual(path_kind(((0, 0), (1, 0), (1, 1))), "rising")
        self.assertEqual(path_kind(((0, 0), (0, 1), (1, 1))), "rising")
        self.assertEqual(path_kind(((0, 1), (1, 1), (1, 0))), "falling")
        self.assertEqual(path_kind(((0, 1), (0, 0), (1, 0))), "falling")

    def test_the_kind_follows_from_the_steps(self):
        for path in PATHS:
            steps = {(b[0] - a[0], b[1] - a[1]) for a, b in zip(path, path[1:])}
            if len(steps) == 2:
                expected = "rising" if (0, 1) in steps else "falling"
            else:
                expected = "straight" if steps else "point"
            self.assertEqual(path_kind(path), expected)


class PartTest(unittest.TestCase):
    def test_parts_of_paths(self):
        rising = ((0, 0), (1, 0), (1, 1), (2, 1))
        self.assertEqual(path_part(rising, (1, 0), (2, 1)), ((1, 0), (1, 1), (2, 1)))
        self.assertEqual(path_part(rising, (2, 1), (1, 0)), ((1, 0), (1, 1), (2, 1)))
        self.assertEqual(path_part(rising, (1, 1), (1, 1)), ((1, 1),))
        self.assertEqual(path_part(rising, (0, 0), (2, 1)), rising)

    def test_a_column_of_a_falling_path_is_turned_to_normal_form(self):
        falling = ((0, 2), (1, 2), (1, 1), (1, 0))
        self.assertEqual(path_part(falling, (1, 2), (1, 0)), ((1, 0), (1, 1), (1, 2)))
        self.assertEqual(path_part(falling, (0, 2), (1, 1)), ((0, 2), (1, 2), (1, 1)))

    def test_every_part_is_a_path_in_normal_form(self):
        known = set(PATHS)
        for path in PATHS:
            for i, a in enumerate(path):
                for j, b in enumerate(path):
                    part = path_part(path, a, b)
                    self.assertIn(part, known)
                    self.assertEqual(set(part), set(path[min(i, j):max(i, j) + 1]))

    def test_a_corner_that_is_not_on_the_path(self):
        path = ((0, 0), (1, 0))
        for a, b, corner in (
            ((0, 1), (0, 0), (0, 1)), ((0, 0), (2, 0), (2, 0)), ((5, 5), (6, 6), (5, 5)),
        ):
            with self.assertRaises(NotOnPath) as caught:
                path_part(path, a, b)
            self.assertEqual(caught.exception.corner, corner)


class TextTest(unittest.TestCase):
    def refused(self, board, text):
        with self.assertRaises(BadText) as caught:
            parse_path(board, text)
        self.assertEqual(caught.exception.line_number, 1)

    def test_letters_and_texts(self):
        path = ((3, 4), (4, 4), (5, 4), (5, 5))
        self.assertEqual(path_letters(path), "EEN")
        self.assertEqual(format_path(path), "3,4 EEN")
        self.assertEqual(path_letters(((0, 0),)), "")
        self.assertEqual(format_path(((0, 0),)), "0,0")
        self.assertEqual(path_letters(((0, 1), (0, 0), (1, 0))), "SE")
        self.assertEqual(format_path(((0, 1), (0, 0), (1, 0))), "0,1 SE")
        self.assertEqual(format_path(((2, 0), (2, 1))), "2,0 N")

    def test_every_path_is_the_path_of_its_text(self):
        for path in PATHS:
            self.assertEqual(parse_path(BOARD, format_path(path)), path)
        self.assertEqual(len({format_path(path) for path in PATHS}), len(PATHS))

    def test_paths_from_side_to_side_of_the_largest_board(self):
        path = parse_path((8, 8), "0,8 " + "ES" * 8)
        self.assertEqual((path[0], path[-1], len(path)), ((0, 8), (8, 0), 17))

    def test_refused_texts(self):
        for text in (
            "", " ", "0", "0,", ",0", "0,0 ", " 0,0", "0,0  E", "0,0E", "0,0 E ", "0,0\n", "0,0 E\n",
            "0,1 S", "1,0 W", "0,0 e", "0,0 X", "00,0", "0,00", "01,1 E", "+1,1", "-1,0", "-0,0",
            "0, 0", "0,0,0", "1.0,0", "3,0 E", "4,0", "0,3 N", "0,0 S", "0,0 EEEE", "0,1 NS",
            "0,1 ENS", "0,0\tE", "0;0", "0,0 E N", "0,0 E,N", "a,b",
        ):
            self.refused(BOARD, text)

    def test_refused_texts_of_boards_with_a_side_of_0(self):
        self.assertEqual(parse_path((0, 0), "0,0"), ((0, 0),))
        self.refused((0, 0), "0,0 E")
        self.refused((0, 8), "0,0 NE")
        self.refused((8, 0), "1,0 N")

    def test_long_texts(self):
        self.refused(BOARD, "9" * 20000)
        self.refused(BOARD, "9" * 19990 + ",0")
        self.refused(BOARD, "0,0 " + "E" * 19990)

    def test_exactly_the_texts_of_paths_are_accepted(self):
        board = (1, 1)
        texts = {format_path(path): path for path in paths_of(board)}
        for start in ("0,0", "0,1", "1,0", "1,1", "2,0", "0,2"):
            for length in range(4):
                for letters in product("ENSW", repeat=length):
                    text = f"{start} {''.join(letters)}" if length else start
                    if text in texts:
                        self.assertEqual(parse_path(board, text), texts[text])
                    else:
                        self.refused(board, text)


class CountTest(unittest.TestCase):
    def test_the_normal_forms_of_all_walks_are_all_paths(self):
        corners = board_corners((1, 1))
        walks = [row for length in range(1, 5) for row in product(corners, repeat=length)]
        found = {normal_path((1, 1), row) for row in walks if first_fault((1, 1), row) is None}
        self.assertEqual(sorted(found), paths_of((1, 1)))


if __name__ == "__main__":
    unittest.main()
