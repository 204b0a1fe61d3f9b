"""Points 1 to 4 over the whole program."""

import ast
import pathlib
import unittest

from cornerplane.changes import amend
from cornerplane.closures import closure, is_derivation, open_pair
from cornerplane.desk import Desk, load_desk
from cornerplane.grid import corners_of
from cornerplane.lamps import common_view, find_lamp, kernel
from cornerplane.landmaps import LandMap
from cornerplane.outlines import outline
from cornerplane.paths import format_path
from cornerplane.planes import each_line
from cornerplane.regions import Region, paint
from cornerplane.rooms import holes, room_pieces
from cornerplane.routes import is_layers, sight_layers
from cornerplane.sharing import Readings, find_shared
from cornerplane.sight import seen
from cornerplane.splits import is_split, split_four
from tests.models import expected, replayed, told
from tests.oracles import board_cells, board_corners
from tests.samples import planes_of, some_plane

PACKAGE = pathlib.Path(__file__).resolve().parent.parent / "cornerplane"


class PackageTest(unittest.TestCase):
    def test_nothing_from_outside_is_imported(self):
        files = sorted(PACKAGE.glob("*.py"))
        self.assertIn("desk.py", [file.name for file in files])
        for file in files:
            for node in ast.walk(ast.parse(file.read_text(encoding="ascii"))):
                self.assertNotIsInstance(node, ast.Import, file.name)
                if isinstance(node, ast.ImportFrom):
                    self.assertTrue(node.module.startswith("cornerplane."), file.name)
                    self.assertEqual(node.level, 0)

    def test_no_fraction_and_no_file(self):
        for file in PACKAGE.glob("*.py"):
            for node in ast.walk(ast.parse(file.read_text(encoding="ascii"))):
                self.assertNotIsInstance(node, ast.Div, file.name)
                if isinstance(node, ast.Constant):
                    self.assertNotIsInstance(node.value, (float, complex), file.name)
                if isinstance(node, ast.Name):
                    self.assertNotIn(node.id, ("open", "print", "input", "float"), file.name)


class BoardsTest(unittest.TestCase):
    def test_a_desk_of_every_board(self):
        for width in range(9):
            for height in range(9):
                board = (width, height)
                desk = Desk(board)
                # A stroke along the rim and back across, as far as the board goes.
                desk.do_all([
                    f"stroke a 0,0{' ' if width or height else ''}{'N' * height}{'E' * width}",
                    f"shape s 0,0 {width},0 {width},{height} 0,{height}", "pin s",
                    f"wall {width // 2},{height // 2}", "place p 0,0",
                ])
                desk.undo()
                again = load_desk(desk.text())
                self.assertEqual(told(again), told(desk))
                if width + height < 7:
                    model = replayed(board, None, None, desk.done())
                    self.assertEqual(told(desk), expected(model, desk.done(), desk.undone()))
                self.assertEqual(len(desk.picture("s")), width * height)


class LongListsTest(unittest.TestCase):
    """What the program has returned may be passed on to it, and no list is too long for it."""

    def test_corners_several_times(self):
        board = (8, 8)
        corners = corners_of(board) * 5
        for plane in planes_of(board)[:3:2]:
            self.assertIsNone(open_pair(plane, corners))
            self.assertEqual(closure(plane, corners), corners_of(board))
            self.assertEqual(seen(plane, corners, (4, 4)), corners_of(board))
            self.assertEqual(kernel(plane, corners), corners_of(board))
            self.assertEqual(common_view(plane, corners, corners), corners_of(board))
            self.assertEqual(find_lamp(plane, corners, corners), ("lamp", (0, 0)))
            layers = sight_layers(plane, corners, (3, 3))
            self.assertIs(is_layers(plane, corners, (3, 3), layers), True)
            steps = [(corner, corner, corner) for corner in corners]
            self.assertIs(is_derivation(plane, corners, steps), True)
        self.assertEqual(holes(board, corners), [])
        self.assertEqual(room_pieces(corners), [corners_of(board)])

    def test_many_sets_faces_and_readings(self):
        plane = some_plane((2, 2), 1)
        sets = [[corner, corner] for corner in board_corners((2, 2))] * 4
        self.assertEqual(find_shared(plane, sets), ("three", (0, 0, 1)))
        readings = Readings(plane)
        self.assertEqual([readings.put([(0, 0)]) for _ in range(80)], list(range(80)))
        cells = board_cells((8, 8))
        land = LandMap((8, 8), [(f"f{at}", [cell] * 5) for at, cell in enumerate(cells)])
        self.assertEqual(len(land.names()), 64)

    def test_many_deeds(self):
        desk = Desk((2, 2))
        lines = ["wall 0,0", "clear 0,0"] * 60
        desk.do_all(lines)
        self.assertEqual(load_desk(desk.text()).done(), lines)

    def test_long_loops_and_lists_of_lines(self):
        board = (8, 8)
        plane = some_plane(board, 2)
        region = Region([cell for cell in board_cells(board) if sum(cell) % 2 == 0])
        loops = outline(region)
        self.assertEqual(len(loops), 32)
        self.assertEqual(paint(plane, loops).cells, region.cells)
        lines = list(each_line(some_plane((3, 3), 2)))
        other = amend(some_plane((3, 3), 5), lines)
        self.assertEqual(list(each_line(other)), lines)


class TwiceTest(unittest.TestCase):
    def test_the_same_question_twice_gives_equal_answers(self):
        plane = some_plane((5, 4), 3)
        for seed in range(40):
            four = [(seed % 6, seed % 5), (5, 0), (0, seed % 4), (seed % 4, 4)]
            first = split_four(plane, four)
            self.assertEqual(split_four(plane, four), first)
            self.assertIs(is_split(plane, four, first), True)
            self.assertEqual(sight_layers(plane, four, four[0]), sight_layers(plane, four, four[0]))
        lines = [f"stroke a {format_path(line)}" for line in list(each_line(plane))[:40]]
        for line in lines:
            one, other = Desk((5, 4)), Desk((5, 4))
            one.do(line)
            other.do(line)
            self.assertEqual(told(one), told(other))


if __name__ == "__main__":
    unittest.main()
