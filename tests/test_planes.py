"""Points 16, 17, 19 and 21 to 23 and the interface of cornerplane/planes.py."""

import inspect
import unittest
from itertools import product

from cornerplane.conflicts import find_conflict
from cornerplane.errors import BadTable, BrokenTable, OffBoard
from cornerplane.planes import Plane, each_line, last_tables
from tests.oracles import (
    board_corners, consistent_tables, conflict_free_families, pairs_of_half, paths_of, straight,
    table_path,
)
from tests.samples import some_plane

BOARDS = [(1, 1), (2, 1), (1, 2), (3, 2), (2, 3), (0, 3), (3, 0), (0, 0)]


def normal_line(plane, p, q):
    return tuple(plane.line(min(p, q), max(p, q)))


class CreationTest(unittest.TestCase):
    def refused(self, error, board, rising, falling, **attributes):
        with self.assertRaises(error) as caught:
            Plane(board, rising, falling)
        for name, value in attributes.items():
            self.assertEqual(getattr(caught.exception, name), value)

    def test_the_attributes(self):
        plane = Plane((2, 1), "EEN", "SSS")
        self.assertEqual(plane.board, (2, 1))
        self.assertEqual(plane.rising, "EEN")
        self.assertEqual(plane.falling, "SSS")

    def test_wrong_lengths_and_letters(self):
        for rising in ("", "EE", "EEEE", "EES", "een", "EE ", "EEN\n"):
            self.refused(BadTable, (2, 1), rising, "EEE", half="rising")
        for falling in ("", "EE", "EEEE", "EEN", "ees", "EE "):
            self.refused(BadTable, (2, 1), "EEE", falling, half="falling")

    def test_boards_with_a_side_of_0(self):
        for board in ((0, 0), (0, 8), (8, 0)):
            plane = Plane(board, "", "")
            self.assertEqual((plane.rising, plane.falling), ("", ""))
            self.refused(BadTable, board, "E", "", half="rising")
            self.refused(BadTable, board, "", "S", half="falling")

    def test_broken_tables(self):
        self.refused(
            BrokenTable, (2, 1), "ENE", "EEE", half="rising", start=(0, 0), end=(2, 1)
        )
        self.refused(
            BrokenTable, (2, 1), "EEE", "ESE", half="falling", start=(0, 1), end=(2, 0)
        )

    def test_the_order_of_the_errors(self):
        self.refused(BadTable, (2, 1), "EE", "EE", half="rising")
        self.refused(BadTable, (2, 1), "ENE", "EE", half="falling")
        self.refused(BadTable, (2, 1), "EE", "ESE", half="rising")
        self.refused(BrokenTable, (2, 1), "ENE", "ESE", half="rising")

    def test_exactly_the_consistent_tables_are_accepted(self):
        for board in ((2, 1), (1, 2), (2, 2)):
            count = len(pairs_of_half(board, "rising"))
            good = set(consistent_tables(board, "rising"))
            for letters in product("EN", repeat=count):
                table = "".join(letters)
                if table in good:
                    self.assertEqual(Plane(board, table, "E" * count).rising, table)
                else:
                    self.refused(BrokenTable, board, table, "E" * count, half="rising")

    def test_equal_tables_give_equal_answers(self):
        one, two = some_plane((3, 3), 4), some_plane((3, 3), 4)
        for p, q in product(board_corners((3, 3)), repeat=2):
            self.assertEqual(one.line(p, q), two.line(p, q))


class LineTest(unittest.TestCase):
    def test_lines_of_a_small_plane(self):
        plane = Plane((2, 1), "EEN", "SSE")
        self.assertEqual(plane.line((0, 0), (2, 1)), [(0, 0), (1, 0), (1, 1), (2, 1)])
        self.assertEqual(plane.line((2, 1), (0, 0)), [(2, 1), (1, 1), (1, 0), (0, 0)])
        self.assertEqual(plane.line((0, 0), (2, 0)), [(0, 0), (1, 0), (2, 0)])
        self.assertEqual(plane.line((1, 1), (1, 0)), [(1, 1), (1, 0)])
        self.assertEqual(plane.line((1, 1), (1, 1)), [(1, 1)])
        self.assertEqual(plane.line((0, 1), (1, 0)), [(0, 1), (0, 0), (1, 0)])

    def test_lines_follow_the_letters_of_the_tables(self):
        for board in BOARDS:
            plane = some_plane(board, 7)
            for half, letters in (("rising", plane.rising), ("falling", plane.falling)):
                for p, q in pairs_of_half(board, half):
                    path = table_path(board, half, letters, p, q)
                    self.assertEqual(plane.line(p, q), list(path))
                    self.assertEqual(plane.line(q, p), list(path[::-1]))

    def test_equal_corners_and_corners_in_one_row_or_column(self):
        plane = some_plane((3, 2), 8)
        for p, q in product(board_corners((3, 2)), repeat=2):
            if p[0] == q[0] or p[1] == q[1]:
                self.assertEqual(plane.line(p, q), list(straight(p, q)))

    def test_the_rule_of_parts(self):
        for board in BOARDS:
            for seed in range(5):
                plane = some_plane(board, seed)
                for p, q in product(board_corners(board), repeat=2):
                    line = plane.line(p, q)
                    for i, j in product(range(len(line)), repeat=2):
                        part = line[i:j + 1] if i <= j else line[j:i + 1][::-1]
                        self.assertEqual(plane.line(line[i], line[j]), part)

    def test_corners_off_the_board(self):
        plane = Plane((2, 1), "EEE", "EEE")
        for p, q, corner in (
            ((3, 0), (0, 0), (3, 0)),
            ((0, 0), (0, 2), (0, 2)),
            ((-1, 0), (0, 5), (-1, 0)),
            ((5, 5), (5, 5), (5, 5)),
        ):
            for ask in (plane.line, plane.step_from):
                with self.assertRaises(OffBoard) as caught:
                    ask(p, q)
                self.assertEqual(caught.exception.corner, corner)

    def test_step_from(self):
        for board in BOARDS:
            plane = some_plane(board, 9)
            for p, q in product(board_corners(board), repeat=2):
                if p == q:
                    self.assertIsNone(plane.step_from(p, q))
                else:
                    self.assertEqual(plane.step_from(p, q), plane.line(p, q)[1])

    def test_a_change_to_a_line_changes_no_later_answer(self):
        plane = Plane((2, 1), "EEN", "SSS")
        for p, q in product(board_corners((2, 1)), repeat=2):
            line = plane.line(p, q)
            expected = list(line)
            line.append("more")
            self.assertEqual(plane.line(p, q), expected)


class HasPathTest(unittest.TestCase):
    def test_exactly_the_lines_of_the_ends_are_accepted(self):
        for board in BOARDS:
            plane = some_plane(board, 3)
            for path in paths_of(board):
                is_line = list(path) == plane.line(path[0], path[-1])
                self.assertIs(plane.has_path(path), is_line)

    def test_points_and_straight_paths_are_always_lines(self):
        plane = some_plane((3, 2), 5)
        for p, q in product(board_corners((3, 2)), repeat=2):
            if p <= q and (p[0] == q[0] or p[1] == q[1]):
                self.assertIs(plane.has_path(straight(p, q)), True)


class ConsequenceTest(unittest.TestCase):
    def test_two_lines_never_conflict(self):
        for board in ((3, 2), (2, 3)):
            for seed in range(4):
                plane = some_plane(board, seed)
                corners = board_corners(board)
                lines = [normal_line(plane, p, q) for p in corners for q in corners if p <= q]
                for one, two in product(lines, repeat=2):
                    self.assertIsNone(find_conflict(one, two))

    def test_every_family_without_a_conflict_is_a_plane(self):
        for board in ((1, 1), (2, 1), (1, 2), (2, 2)):
            for half in ("rising", "falling"):
                families = conflict_free_families(board, half)
                self.assertEqual(families, consistent_tables(board, half))
                plain = "E" * len(pairs_of_half(board, half))
                for table in families:
                    tables = (table, plain) if half == "rising" else (plain, table)
                    Plane(board, *tables)


class LastTablesTest(unittest.TestCase):
    def test_a_small_plane(self):
        self.assertEqual(last_tables(Plane((2, 1), "EEN", "SSE")), ("NEE", "EES"))
        self.assertEqual(last_tables(Plane((0, 5), "", "")), ("", ""))

    def test_the_letters_are_those_of_the_last_steps(self):
        for board in BOARDS:
            plane = some_plane(board, 11)
            expected = []
            for half in ("rising", "falling"):
                letters = ""
                for p, q in pairs_of_half(board, half):
                    before = plane.line(p, q)[-2]
                    steep = "N" if half == "rising" else "S"
                    letters += "E" if before[1] == q[1] else steep
                expected.append(letters)
            self.assertEqual(last_tables(plane), tuple(expected))
            self.assertIsInstance(last_tables(plane), tuple)

    def test_they_determine_the_plane(self):
        for board in ((2, 1), (2, 2)):
            plain = "E" * len(pairs_of_half(board, "falling"))
            tables = consistent_tables(board, "rising")
            found = {last_tables(Plane(board, table, plain)) for table in tables}
            self.assertEqual(len(found), len(tables))


class EachLineTest(unittest.TestCase):
    def test_the_lines_in_order(self):
        for board in BOARDS:
            plane = some_plane(board, 13)
            pairs = pairs_of_half(board, "rising") + pairs_of_half(board, "falling")
            self.assertEqual(list(each_line(plane)), [tuple(plane.line(p, q)) for p, q in pairs])

    def test_it_yields(self):
        plane = Plane((1, 1), "E", "S")
        self.assertTrue(inspect.isgenerator(each_line(plane)))
        self.assertEqual(next(each_line(plane)), ((0, 0), (1, 0), (1, 1)))
        self.assertEqual(
            list(each_line(plane)), [((0, 0), (1, 0), (1, 1)), ((0, 1), (0, 0), (1, 0))]
        )


class InterfaceTest(unittest.TestCase):
    def test_the_methods_are_defined_in_the_class(self):
        for name in ("line", "step_from", "has_path"):
            self.assertIn(name, vars(Plane))


if __name__ == "__main__":
    unittest.main()
