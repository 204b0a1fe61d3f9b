"""Points 62, 63, 66 and 67 and the interface of cornerplane/landmaps.py."""

import random
import unittest

from cornerplane.errors import NameTaken, Overlap, UnknownName
from cornerplane.landmaps import LandMap, merge_faces, overlay, put_in
from cornerplane.regions import Region
from tests.oracles import board_cells
from tests.samples import some_cells, some_land

BOARDS = [(2, 1), (3, 3), (8, 8), (1, 5), (0, 3), (3, 0), (0, 0)]
LAND = LandMap((3, 2), [("b", [(1, 0), (0, 0)]), ("a1", [(2, 1)]), ("none", []), ("7", [(0, 1)])])


def names_of_cells(land):
    """What a map tells of the cells of its board and of some cells around it."""
    width, height = land.board
    return {
        (x, y): land.face_at((x, y))
        for x in range(-2, width + 2) for y in range(-2, height + 2)
    }


def told(land):
    """All that a map tells."""
    names = land.names()
    return (land.board, names, names_of_cells(land), [land.region(name).cells for name in names])


class LandMapTest(unittest.TestCase):
    def refused(self, faces, error):
        for given in (list(faces), tuple((name, tuple(cells)) for name, cells in faces)):
            with self.assertRaises(type(error)) as caught:
                LandMap((3, 2), given)
            self.assertEqual(vars(caught.exception), vars(error))

    def check(self, land, expected):
        """Compare what the map tells with a dict of the names of the cells that have one."""
        names = sorted(set(expected.values()))
        self.assertEqual(land.names(), names)
        for cell, name in names_of_cells(land).items():
            self.assertEqual(name, expected.get(cell, ""))
        for name in names + ["", "unheard"]:
            region = land.region(name)
            self.assertIsInstance(region, Region)
            cells = tuple(sorted(cell for cell in expected if expected[cell] == name))
            self.assertEqual(region.cells, cells)

    def test_a_small_map(self):
        self.assertEqual(LAND.board, (3, 2))
        self.assertEqual(LAND.names(), ["7", "a1", "b"])
        self.assertEqual(LAND.region("b").cells, ((0, 0), (1, 0)))
        self.assertEqual(LAND.face_at((1, 0)), "b")
        self.assertEqual(LAND.face_at((1, 1)), "")
        self.check(LAND, {(0, 0): "b", (1, 0): "b", (2, 1): "a1", (0, 1): "7"})

    def test_cells_outside_of_the_board_have_no_name(self):
        full = LandMap((1, 1), [("a", [(0, 0)])])
        for cell in ((-1, 0), (0, -1), (1, 0), (0, 1), (9, 9), (-1, -1), (10 ** 30, 0)):
            self.assertEqual(full.face_at(cell), "")
        self.assertEqual(full.face_at((0, 0)), "a")

    def test_a_face_without_cells_is_left_out(self):
        self.assertEqual(LAND.region("none").cells, ())
        self.assertNotIn("none", LAND.names())
        self.check(LandMap((3, 2), [("a", []), ("b", ())]), {})

    def test_no_face_has_the_empty_name(self):
        self.assertEqual(LAND.region("").cells, ())
        self.assertNotIn("", LAND.names())
        self.assertEqual(LandMap((2, 2), []).region("").cells, ())

    def test_some_maps(self):
        for board in BOARDS:
            for seed in range(10):
                faces, expected = {}, {}
                chance = random.Random(seed)
                for cell in some_cells(board, seed, 0.1 * seed):
                    name = chance.choice(["a", "b", "z9", "a+b", "0"])
                    faces.setdefault(name, []).extend([cell] * chance.choice([1, 1, 3]))
                    expected[cell] = name
                for cells in faces.values():
                    chance.shuffle(cells)
                for given in (list(faces.items()), tuple(faces.items())):
                    self.check(LandMap(board, given), expected)

    def test_boards_with_a_side_of_0(self):
        for board in ((0, 3), (3, 0), (0, 0)):
            land = LandMap(board, [("a", []), ("b", [])])
            self.check(land, {})
            self.assertEqual(land.board, board)

    def test_a_name_that_is_taken(self):
        self.refused([("a", [(0, 0)]), ("a", [(1, 0)])], NameTaken("a"))
        self.refused([("a", [(0, 0)]), ("b", []), ("a", [])], NameTaken("a"))
        self.refused([("b", []), ("b", [(0, 0)])], NameTaken("b"))
        self.refused([("b", []), ("b", [])], NameTaken("b"))
        # The name comes before the cells of the same item.
        self.refused([("a", [(0, 0)]), ("a", [(0, 0)])], NameTaken("a"))

    def test_cells_that_an_earlier_item_has(self):
        self.refused([("a", [(0, 0)]), ("b", [(0, 0)])], Overlap((0, 0)))
        self.refused(
            [("a", [(2, 1), (1, 0), (0, 1)]), ("b", [(2, 1), (2, 0), (1, 0), (0, 0)])],
            Overlap((1, 0)),
        )
        self.refused(
            [("a", [(2, 0)]), ("b", [(1, 1)]), ("c", [(2, 0), (1, 1)])], Overlap((1, 1))
        )

    def test_the_least_of_many_common_cells(self):
        for board in BOARDS[1:4]:
            for seed in range(30):
                one = some_cells(board, seed, 0.4)
                other = some_cells(board, seed + 40, 0.7)
                random.Random(seed).shuffle(other)
                common = sorted(set(one) & set(other))
                if common:
                    with self.assertRaises(Overlap) as caught:
                        LandMap(board, [("a", one), ("b", other)])
                    self.assertEqual(caught.exception.cell, common[0])

    def test_the_items_are_looked_at_in_order(self):
        self.refused(
            [("a", [(0, 0)]), ("b", [(0, 0)]), ("a", [])], Overlap((0, 0))
        )
        self.refused(
            [("a", [(0, 0)]), ("a", []), ("b", [(0, 0)])], NameTaken("a")
        )

    def test_a_cell_several_times_in_one_item_is_no_overlap(self):
        land = LandMap((3, 2), [("a", [(1, 1), (0, 0), (1, 1), (1, 1)])])
        self.check(land, {(0, 0): "a", (1, 1): "a"})

    def test_later_changes_change_nothing(self):
        cells = [(1, 0), (0, 0)]
        faces = [("a", cells), ("b", [(2, 1)])]
        land = LandMap((3, 2), faces)
        self.assertEqual(faces, [("a", [(1, 0), (0, 0)]), ("b", [(2, 1)])])
        before = told(land)
        cells.append((2, 0))
        faces.clear()
        land.names().clear()
        self.assertEqual(told(land), before)


class OverlayTest(unittest.TestCase):
    def test_a_small_overlay(self):
        other = LandMap((3, 2), [("x", [(1, 0), (1, 1)]), ("b", [(2, 1), (2, 0)])])
        land = overlay(LAND, other)
        self.assertIsInstance(land, LandMap)
        self.assertEqual(
            {cell: name for cell, name in names_of_cells(land).items() if name},
            {
                (0, 0): "b", (1, 0): "b+x", (2, 1): "a1+b", (0, 1): "7", (1, 1): "x",
                (2, 0): "b",
            },
        )
        # The cells of one name are one face, from whichever map they have it.
        self.assertEqual(land.region("b").cells, ((0, 0), (2, 0)))
        self.assertEqual(land.names(), ["7", "a1+b", "b", "b+x", "x"])

    def test_some_overlays(self):
        for board in BOARDS:
            for seed in range(8):
                one, other = some_land(board, seed, 0.6), some_land(board, seed + 50, 0.5)
                found = overlay(one, other)
                self.assertEqual(found.board, board)
                for cell, name in names_of_cells(found).items():
                    both = [land.face_at(cell) for land in (one, other) if land.face_at(cell)]
                    self.assertEqual(name, "+".join(both))
                self.assertEqual(
                    found.names(), sorted({name for name in names_of_cells(found).values() if name})
                )

    def test_three_maps_in_both_groupings(self):
        for board in BOARDS:
            for seed in range(8):
                a, b, c = [some_land(board, seed + 30 * k, 0.5) for k in range(3)]
                self.assertEqual(
                    told(overlay(overlay(a, b), c)), told(overlay(a, overlay(b, c)))
                )

    def test_with_itself_and_with_an_empty_map(self):
        empty = LandMap((3, 2), [])
        self.assertEqual(told(overlay(LAND, empty)), told(LAND))
        self.assertEqual(told(overlay(empty, LAND)), told(LAND))
        self.assertEqual(overlay(LAND, LAND).names(), ["7+7", "a1+a1", "b+b"])
        self.assertEqual(overlay(empty, empty).names(), [])

    def test_the_maps_stay_as_they_were(self):
        other = some_land((3, 2), 1, 0.8)
        before = told(LAND), told(other)
        overlay(LAND, other).names().clear()
        self.assertEqual((told(LAND), told(other)), before)


class MergeFacesTest(unittest.TestCase):
    def refused(self, names, name, error):
        before = told(LAND)
        for given in (list(names), tuple(names)):
            with self.assertRaises(type(error)) as caught:
                merge_faces(LAND, given, name)
            self.assertEqual(vars(caught.exception), vars(error))
            self.assertEqual(told(LAND), before)

    def test_small_merges(self):
        for names in (["b", "7"], ("7", "b"), ["b", "7", "b"]):
            for name in ("new", "b", "7", "b+7", "none"):
                land = merge_faces(LAND, names, name)
                self.assertEqual(land.names(), sorted(["a1", name]))
                self.assertEqual(land.region(name).cells, ((0, 0), (0, 1), (1, 0)))
                self.assertEqual(land.region("a1").cells, ((2, 1),))
                self.assertEqual(land.board, (3, 2))
        self.assertEqual(told(merge_faces(LAND, ["b"], "b")), told(LAND))
        self.assertEqual(merge_faces(LAND, LAND.names(), "all").names(), ["all"])

    def test_no_names(self):
        for given in ([], ()):
            self.assertEqual(told(merge_faces(LAND, given, "new")), told(LAND))
        self.refused([], "b", NameTaken("b"))

    def test_some_merges(self):
        for board in BOARDS:
            for seed in range(8):
                land = some_land(board, seed, 0.7)
                chance = random.Random(seed)
                names = [name for name in land.names() if chance.random() < 0.5]
                merged = merge_faces(land, names, "new")
                for cell, name in names_of_cells(land).items():
                    self.assertEqual(merged.face_at(cell), "new" if name in names else name)

    def test_names_that_no_face_has(self):
        self.refused(["b", "x", "y"], "new", UnknownName("x"))
        self.refused(["y", "b", "x"], "new", UnknownName("y"))
        self.refused([""], "new", UnknownName(""))
        self.refused(["b", ""], "new", UnknownName(""))
        # A face without cells is no face.
        self.refused(["none"], "new", UnknownName("none"))
        self.refused(["B"], "new", UnknownName("B"))

    def test_a_name_of_a_face_that_is_not_listed(self):
        self.refused(["b"], "a1", NameTaken("a1"))
        self.refused(["b", "7"], "a1", NameTaken("a1"))
        # An unknown name comes first.
        self.refused(["b", "x"], "a1", UnknownName("x"))

    def test_the_names_stay_as_they_were(self):
        names = ["b", "7", "b"]
        merge_faces(LAND, names, "new")
        self.assertEqual(names, ["b", "7", "b"])


class PutInTest(unittest.TestCase):
    def test_small_ones(self):
        land = put_in(LAND, "7", Region([(1, 0), (2, 0)]))
        self.assertEqual(land.region("7").cells, ((0, 1), (1, 0), (2, 0)))
        self.assertEqual(land.region("b").cells, ((0, 0),))
        self.assertEqual(land.names(), ["7", "a1", "b"])
        land = put_in(LAND, "new", Region([(1, 0), (0, 0)]))
        self.assertEqual(land.names(), ["7", "a1", "new"])
        self.assertEqual(land.region("b").cells, ())

    def test_an_empty_region(self):
        self.assertEqual(told(put_in(LAND, "b", Region([]))), told(LAND))
        self.assertEqual(told(put_in(LAND, "new", Region([]))), told(LAND))
        for board in ((0, 3), (3, 0), (0, 0)):
            self.assertEqual(put_in(LandMap(board, []), "a", Region([])).names(), [])

    def test_some_regions(self):
        for board in BOARDS:
            for seed in range(8):
                land = some_land(board, seed, 0.7)
                region = Region(some_cells(board, seed + 9, 0.12 * seed))
                for name in land.names()[:2] + ["new"]:
                    found = put_in(land, name, region)
                    self.assertEqual(found.board, board)
                    for cell, before in names_of_cells(land).items():
                        expected = name if cell in region.cells else before
                        self.assertEqual(found.face_at(cell), expected)

    def test_the_map_and_the_region_stay_as_they_were(self):
        region = Region([(1, 0), (2, 0)])
        before = told(LAND)
        put_in(LAND, "7", region)
        self.assertEqual(told(LAND), before)
        self.assertEqual(region.cells, ((1, 0), (2, 0)))


class EveryCellTest(unittest.TestCase):
    def test_each_cell_of_the_board_has_its_name_in_its_face(self):
        for board in BOARDS:
            land = some_land(board, 3, 0.9)
            for cell in board_cells(board):
                name = land.face_at(cell)
                self.assertEqual(cell in land.region(name), name != "")


if __name__ == "__main__":
    unittest.main()
