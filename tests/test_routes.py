"""Point 82 and the interface of cornerplane/routes.py."""

import random
import unittest

from cornerplane.planes import Plane
from cornerplane.routes import is_layers, route, sight_layers
from tests.oracles import board_corners, sees
from tests.samples import planes_of, shuffled, some_chain, some_rooms

BOARDS = [(2, 2), (3, 2), (4, 4), (8, 8), (0, 3), (3, 0), (0, 0)]
EAST = Plane((2, 2), "E" * 9, "E" * 9)
WHOLE = board_corners((2, 2))
RING = [corner for corner in WHOLE if corner != (1, 1)]


def layers_of(plane, room, start):
    """Point 82 word by word: the layers of sight."""
    left = set(room)
    if start not in left:
        return []
    layers = [[start]]
    left.remove(start)
    while True:
        more = sorted(
            w for w in left if any(sees(plane, room, z, w) for z in layers[-1])
        )
        if not more:
            return layers
        layers.append(more)
        left -= set(more)


def accepts(plane, room, start, layers):
    """Point 82 word by word: what `is_layers` accepts."""
    flat = [corner for layer in layers for corner in layer]
    if start not in room or not layers or list(layers[0]) != [start]:
        return False
    if not all(layers) or len(flat) != len(set(flat)) or not set(flat) <= set(room):
        return False
    for at, layer in enumerate(layers):
        near = [corner for other in layers[:at + 2] for corner in other]
        for corner in layer:
            if at and not any(sees(plane, room, corner, z) for z in layers[at - 1]):
                return False
            for other in room:
                if sees(plane, room, corner, other) and other not in near:
                    return False
    return True


def some_cases(count):
    for board in BOARDS:
        for plane in planes_of(board):
            for seed, room in enumerate(some_rooms(board)):
                for start in some_chain(board, seed, count):
                    yield plane, room, start


class SightLayersTest(unittest.TestCase):
    def test_small_rooms(self):
        self.assertEqual(
            sight_layers(EAST, RING, (1, 0)),
            [[(1, 0)], [(0, 0), (2, 0), (2, 1), (2, 2)], [(0, 1), (0, 2), (1, 2)]],
        )
        self.assertEqual(
            sight_layers(EAST, [(0, 0), (2, 2), (0, 0)], (2, 2)), [[(2, 2)]]
        )
        self.assertEqual(sight_layers(EAST, WHOLE, (0, 0)), [[(0, 0)], WHOLE[1:]])

    def test_the_start_outside_of_the_room(self):
        self.assertEqual(sight_layers(EAST, RING, (1, 1)), [])
        self.assertEqual(sight_layers(EAST, [], (1, 1)), [])
        self.assertEqual(sight_layers(EAST, (), (0, 0)), [])

    def test_some_rooms(self):
        most = 0
        for plane, room, start in some_cases(3):
            expected = layers_of(plane, room, start)
            most = max(most, len(expected))
            for given in (list(room), tuple(room), shuffled(room, 2)):
                self.assertEqual(sight_layers(plane, given, start), expected)
            self.assertIs(is_layers(plane, room, start, expected), start in room)
        self.assertGreater(most, 3)


class IsLayersTest(unittest.TestCase):
    START = (1, 0)
    LAYERS = [[(1, 0)], [(0, 0), (2, 0), (2, 1), (2, 2)], [(0, 1), (0, 2), (1, 2)]]

    def check(self, layers, good, room=RING, start=(1, 0)):
        self.assertIs(accepts(EAST, room, start, layers), good)
        for given in (list(room), tuple(room), shuffled(room, 3)):
            self.assertIs(is_layers(EAST, given, start, layers), good)
            self.assertIs(
                is_layers(EAST, given, start, tuple(tuple(layer) for layer in layers)), good
            )

    def test_the_layers_in_any_order(self):
        self.check(self.LAYERS, True)
        self.check([layer[::-1] for layer in self.LAYERS], True)

    def test_the_start_outside_of_the_room(self):
        for layers in ([], [[(1, 1)]], [[]], self.LAYERS, [[(1, 1)], [(0, 1)]]):
            self.check(layers, False, start=(1, 1))
            self.check(layers, False, room=[])

    def test_the_first_list(self):
        first, second, third = self.LAYERS
        self.check([], False)
        self.check([[]], False)
        self.check([second, third], False)
        self.check([[(0, 0)], second, third], False)
        self.check([[(1, 0), (1, 0)], second, third], False)
        self.check([[(1, 0), (0, 0)], second[1:], third], False)
        self.check([[], first, second, third], False)

    def test_empty_lists(self):
        first, second, third = self.LAYERS
        self.check([first, second, third, []], False)
        self.check([first, second, [], third], False)
        self.check([first, [], second, third], False)

    def test_a_corner_twice(self):
        first, second, third = self.LAYERS
        self.check([first, second + second[:1], third], False)
        self.check([first, second, third + [(0, 0)]], False)
        self.check([first, second, third + [(1, 0)]], False)
        self.check([first, second + [(0, 1)], third], False)
        self.check([first, second, third, [(0, 1)]], False)

    def test_corners_that_are_not_in_the_room(self):
        first, second, third = self.LAYERS
        for bad in ((1, 1), (-1, 0), (3, 0), (0, 10 ** 30), (2, -1)):
            self.check([first, second + [bad], third], False)
            self.check([first, second, third + [bad]], False)
            self.check([first, second, third, [bad]], False)
            self.check([[bad], second, third], False)

    def test_a_list_too_early_or_too_late(self):
        first, second, third = self.LAYERS
        self.check([first, second], False)
        self.check([first], False)
        self.check([first, third, second], False)
        self.check([first, second[1:], second[:1] + third], False)
        self.check([first, second, third[1:]], False)
        self.check([first, second, third[:1], third[1:]], False)
        self.check([first, second + third], False)
        for corner in third:
            self.check([first, second, [c for c in third if c != corner], [corner]], False)

    def test_a_room_in_pieces(self):
        room = [(0, 0), (0, 1), (2, 2)]
        self.check([[(0, 0)], [(0, 1)]], True, room=room, start=(0, 0))
        self.check([[(0, 0)], [(0, 1)], [(2, 2)]], False, room=room, start=(0, 0))
        self.check([[(0, 0)], [(0, 1), (2, 2)]], False, room=room, start=(0, 0))
        self.check([[(2, 2)]], True, room=room, start=(2, 2))

    def test_random_changes(self):
        accepted = 0
        for at, (plane, room, start) in enumerate(some_cases(2)):
            chance = random.Random(at)
            layers = [layer[::-1] for layer in layers_of(plane, room, start)]
            if layers and sum(plane.board) < 9:
                kind = chance.randrange(4)
                layer = chance.choice(layers)
                if kind == 0:
                    layer.remove(chance.choice(layer))
                elif kind == 1:
                    layer.append(chance.choice(board_corners(plane.board)))
                elif kind == 2:
                    moved = chance.choice(layer)
                    layer.remove(moved)
                    chance.choice(layers).append(moved)
                else:
                    chance.shuffle(layer)
            good = accepts(plane, room, start, layers)
            accepted += good
            self.assertIs(is_layers(plane, room, start, layers), good)
        self.assertGreater(accepted, 40)


class RouteTest(unittest.TestCase):
    def check(self, plane, room, a, b):
        layers = layers_of(plane, room, a)
        steps = [at for at, layer in enumerate(layers) if b in layer]
        for given in (list(room), tuple(room), shuffled(room, 5)):
            found = route(plane, given, a, b)
            if not steps:
                self.assertIsNone(found)
                continue
            self.assertIsInstance(found, list)
            self.assertEqual((found[0], found[-1]), (a, b))
            self.assertEqual(len(found), steps[0] + 1)
            for z, w in zip(found, found[1:]):
                self.assertTrue(sees(plane, room, z, w))
        return steps

    def test_small_rooms(self):
        self.assertEqual(route(EAST, WHOLE, (0, 0), (2, 2)), [(0, 0), (2, 2)])
        self.assertEqual(route(EAST, RING, (1, 2), (1, 2)), [(1, 2)])
        found = route(EAST, RING, (1, 0), (1, 2))
        self.assertEqual((found[0], len(found), found[-1]), ((1, 0), 3, (1, 2)))
        self.assertIsNone(route(EAST, [(0, 0), (2, 2)], (0, 0), (2, 2)))

    def test_corners_outside_of_the_room(self):
        self.assertIsNone(route(EAST, RING, (1, 1), (1, 1)))
        self.assertIsNone(route(EAST, RING, (1, 1), (0, 0)))
        self.assertIsNone(route(EAST, RING, (0, 0), (1, 1)))
        self.assertIsNone(route(EAST, [], (0, 0), (0, 0)))
        self.assertIsNone(route(EAST, (), (0, 0), (2, 0)))

    def test_some_rooms(self):
        lengths = set()
        for at, (plane, room, a) in enumerate(some_cases(2)):
            for b in some_chain(plane.board, at, 3) + [a]:
                lengths.update(self.check(plane, room, a, b))
        self.assertGreater(max(lengths), 2)


class ArgumentsTest(unittest.TestCase):
    def test_arguments_stay_as_they_were_and_results_are_new(self):
        room = RING[::-1] + RING
        before = list(room)
        for ask in (
            lambda: sight_layers(EAST, room, (1, 0)),
            lambda: sight_layers(EAST, room, (1, 0))[2],
            lambda: route(EAST, room, (1, 0), (1, 2)),
        ):
            first = ask()
            expected = list(first)
            self.assertTrue(expected)
            first.clear()
            self.assertEqual(ask(), expected)
        layers = sight_layers(EAST, room, (1, 0))
        is_layers(EAST, room, (1, 0), layers)
        self.assertEqual(layers, sight_layers(EAST, room, (1, 0)))
        self.assertEqual(room, before)


if __name__ == "__main__":
    unittest.main()
