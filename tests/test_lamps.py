"""Points 79 to 81 and the interface of cornerplane/lamps.py."""

import random
import unittest
from itertools import product

from cornerplane.closures import open_pair
from cornerplane.filling import fill
from cornerplane.lamps import common_view, find_lamp, kernel
from cornerplane.planes import Plane
from tests.oracles import board_corners, holes_of, least_apart, pieces_of, sees
from tests.samples import planes_of, shuffled, solid_room, some_chain, some_rooms

BOARDS = [(2, 2), (3, 2), (8, 8), (0, 3), (3, 0), (0, 0)]
EAST = Plane((2, 2), "E" * 9, "E" * 9)
WHOLE = board_corners((2, 2))
RING = [corner for corner in WHOLE if corner != (1, 1)]


def common(plane, room, places):
    return [
        w for w in sorted(set(room)) if all(sees(plane, room, w, place) for place in places)
    ]


def lamp_of(plane, room, places):
    """Point 80 word by word."""
    lit = common(plane, room, places)
    if lit:
        return ("lamp", lit[0])
    apart = least_apart([common(plane, room, [place]) for place in places])
    return ("dark",) if apart is None else ("three", apart)


class CommonViewTest(unittest.TestCase):
    def check(self, plane, room, places):
        expected = common(plane, room, places)
        for given in (list(room), tuple(room), shuffled(room, 1)):
            self.assertEqual(common_view(plane, given, list(places)), expected)
            self.assertEqual(common_view(plane, given, tuple(places)), expected)
        return expected

    def test_small_ones(self):
        self.assertEqual(
            common_view(EAST, RING, [(0, 0), (1, 2)]), [(0, 2), (2, 0), (2, 1), (2, 2)]
        )
        self.assertEqual(common_view(EAST, RING, [(0, 0)]), common(EAST, RING, [(0, 0)]))
        self.assertEqual(common_view(EAST, WHOLE, WHOLE), WHOLE)

    def test_no_places(self):
        for given in ([], ()):
            self.assertEqual(common_view(EAST, RING[::-1] * 2, given), RING)
            self.assertEqual(common_view(EAST, [], given), [])

    def test_places_outside_of_the_room(self):
        self.assertEqual(common_view(EAST, RING, [(1, 1)]), [])
        self.assertEqual(common_view(EAST, RING, [(0, 0), (1, 1)]), [])
        self.assertEqual(common_view(EAST, [], [(0, 0)]), [])

    def test_some_rooms(self):
        sizes = set()
        for board in BOARDS:
            for plane in planes_of(board):
                for seed, room in enumerate(some_rooms(board)):
                    for count in range(4):
                        places = some_chain(board, 10 * seed + count, count)
                        sizes.add(len(self.check(plane, room, places)))
        self.assertGreater(len(sizes), 10)

    def test_a_room_without_holes(self):
        for board in BOARDS:
            for seed in range(8):
                room = solid_room(board, seed)
                for plane in planes_of(board):
                    for count in range(4):
                        places = random.Random(seed).choices(room, k=count)
                        self.assertEqual(
                            holes_of(board, common_view(plane, room, places)), []
                        )
                for plane in planes_of(board)[2:]:
                    for count in range(1, 4):
                        places = random.Random(seed).choices(room, k=count)
                        view = common_view(plane, room, places)
                        self.assertLessEqual(len(pieces_of(view)), 1)


class FindLampTest(unittest.TestCase):
    def check(self, plane, room, places):
        expected = lamp_of(plane, room, places)
        for given in (list(room), tuple(room), shuffled(room, 1)):
            self.assertEqual(find_lamp(plane, given, list(places)), expected)
            self.assertEqual(find_lamp(plane, given, tuple(places)), expected)
        return expected

    def test_the_example_of_the_interface(self):
        room = [(0, 0), (0, 1), (0, 2), (1, 0), (1, 2), (2, 0), (2, 1), (2, 2)]
        plane = fill((2, 2), [])
        self.assertEqual(find_lamp(plane, room, [(0, 0), (1, 2)]), ("lamp", (0, 2)))
        self.assertEqual(
            find_lamp(plane, room, [(0, 1), (1, 0), (1, 2)]), ("three", (0, 1, 2))
        )

    def test_places_outside_of_the_room(self):
        self.assertEqual(find_lamp(EAST, RING, [(1, 1)]), ("three", (0, 0, 0)))
        self.assertEqual(find_lamp(EAST, RING, [(0, 0), (1, 1)]), ("three", (0, 0, 1)))
        self.assertEqual(find_lamp(EAST, RING, [(1, 1), (0, 0)]), ("three", (0, 0, 0)))
        self.assertEqual(find_lamp(EAST, [], [(0, 0), (2, 2)]), ("three", (0, 0, 0)))

    def test_equal_places(self):
        self.assertEqual(find_lamp(EAST, RING, [(0, 1)] * 24), ("lamp", (0, 0)))
        self.assertEqual(
            find_lamp(EAST, RING, [(0, 1), (0, 1), (1, 0), (1, 0), (1, 2)]),
            ("three", (0, 2, 4)),
        )

    def test_every_kind_of_answer(self):
        # Each three places are seen by a corner, but not all four.
        kinds = {"lamp": 0, "three": 0, "dark": 0}
        for board in ((3, 3), (8, 8), (2, 2), (0, 3), (0, 0)):
            for plane in planes_of(board):
                for seed, room in enumerate(some_rooms(board)):
                    for count in range(1, 8):
                        places = some_chain(board, 10 * seed + count, count)
                        kinds[self.check(plane, room, places)[0]] += 1
        self.assertGreater(min(kinds["lamp"], kinds["three"]), 50)

    def test_dark(self):
        found = 0
        corners = board_corners((3, 3))
        for seed, walls in enumerate(product(corners, repeat=2)):
            room = [corner for corner in corners if corner not in walls]
            for plane in planes_of((3, 3)):
                places = random.Random(seed).sample(room, 6)
                answer = find_lamp(plane, room, places)
                if answer == ("dark",):
                    self.check(plane, room, places)
                    found += 1
        self.assertGreater(found, 0)

    def test_never_dark_in_an_even_plane_and_a_room_without_holes(self):
        for board in BOARDS:
            for seed in range(8):
                room = solid_room(board, seed)
                for plane in planes_of(board)[2:]:
                    for count in range(1, 9):
                        places = random.Random(count).choices(room, k=count)
                        self.assertNotEqual(self.check(plane, room, places), ("dark",))


class KernelTest(unittest.TestCase):
    def check(self, plane, room):
        expected = common(plane, room, room)
        for given in (list(room), tuple(room), shuffled(room, 1)):
            self.assertEqual(kernel(plane, given), expected)
        return expected

    def test_small_ones(self):
        self.assertEqual(kernel(EAST, []), [])
        self.assertEqual(kernel(EAST, ()), [])
        self.assertEqual(kernel(EAST, WHOLE), WHOLE)
        self.assertEqual(kernel(EAST, [(1, 1), (1, 1)]), [(1, 1)])
        self.assertEqual(kernel(EAST, [(0, 0), (0, 1), (1, 1)]), [(0, 1)])
        self.assertEqual(kernel(EAST, [(0, 0), (2, 2)]), [])

    def test_some_rooms(self):
        sizes = set()
        for board in BOARDS:
            for plane in planes_of(board):
                for room in some_rooms(board):
                    sizes.add(len(self.check(plane, room)))
        self.assertGreater(len(sizes), 5)

    def test_a_room_without_holes_in_an_even_plane(self):
        for board in BOARDS:
            for seed in range(10):
                room = solid_room(board, seed)
                for plane in planes_of(board)[2:]:
                    self.assertIsNone(open_pair(plane, self.check(plane, room)))


class ArgumentsTest(unittest.TestCase):
    def test_arguments_stay_as_they_were_and_results_are_new(self):
        room, places = RING[::-1] + RING, [(0, 0), (0, 1), (0, 0)]
        before = list(room), list(places)
        star = [(0, 0), (0, 1), (1, 1)]
        for ask in (lambda: common_view(EAST, room, places), lambda: kernel(EAST, star)):
            first = ask()
            expected = list(first)
            self.assertTrue(expected)
            first.clear()
            self.assertEqual(ask(), expected)
        find_lamp(EAST, room, places)
        self.assertEqual((room, places), before)
        self.assertEqual(star, [(0, 0), (0, 1), (1, 1)])


if __name__ == "__main__":
    unittest.main()
