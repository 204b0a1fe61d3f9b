"""Points 76 to 78 and the interface of cornerplane/sight.py."""

import random
import unittest

from cornerplane.errors import NoChange
from cornerplane.planes import Plane
from cornerplane.sight import Watch, blocked_at, seen, sight_tree
from tests.oracles import board_corners, sees
from tests.samples import planes_of, shuffled, some_chain, some_rooms

BOARDS = [(2, 2), (3, 2), (8, 8), (0, 3), (3, 0), (0, 0)]
EAST = Plane((2, 2), "E" * 9, "E" * 9)
WHOLE = board_corners((2, 2))
FRAME = [corner for corner in WHOLE if corner != (1, 0)]


def first_outside(plane, room, z, w):
    outside = [corner for corner in plane.line(z, w) if corner not in room]
    return outside[0] if outside else None


def corners_to_ask(board):
    return board_corners(board) if board != (8, 8) else some_chain(board, 8, 12)


class BlockedAtTest(unittest.TestCase):
    def test_small_rooms(self):
        self.assertIsNone(blocked_at(EAST, WHOLE, (0, 0), (2, 2)))
        self.assertEqual(blocked_at(EAST, FRAME, (0, 0), (1, 1)), (1, 0))
        self.assertEqual(blocked_at(EAST, FRAME, (1, 1), (0, 0)), (1, 0))
        self.assertIsNone(blocked_at(EAST, FRAME, (1, 1), (1, 1)))
        self.assertEqual(blocked_at(EAST, [], (0, 0), (2, 2)), (0, 0))
        # Seen from the other end, another corner comes first.
        self.assertEqual(blocked_at(EAST, [(0, 0), (2, 2)], (0, 0), (2, 2)), (1, 0))
        self.assertEqual(blocked_at(EAST, [(0, 0), (2, 2)], (2, 2), (0, 0)), (2, 1))

    def test_corners_that_are_not_in_the_room(self):
        self.assertEqual(blocked_at(EAST, FRAME, (1, 0), (2, 0)), (1, 0))
        self.assertEqual(blocked_at(EAST, FRAME, (2, 0), (1, 0)), (1, 0))
        self.assertEqual(blocked_at(EAST, FRAME, (1, 0), (1, 0)), (1, 0))

    def test_some_rooms(self):
        blocked = 0
        for board in BOARDS:
            for plane in planes_of(board):
                for room in some_rooms(board):
                    for z in corners_to_ask(board):
                        for w in corners_to_ask(board):
                            expected = first_outside(plane, room, z, w)
                            self.assertEqual(blocked_at(plane, room, z, w), expected)
                            blocked += expected is not None
        self.assertGreater(blocked, 1000)

    def test_a_list_or_a_tuple_in_any_order(self):
        for given in (tuple(FRAME), shuffled(FRAME, 1), tuple(shuffled(FRAME, 2))):
            for z in WHOLE:
                for w in WHOLE:
                    self.assertEqual(
                        blocked_at(EAST, given, z, w), first_outside(EAST, FRAME, z, w)
                    )


class SeenTest(unittest.TestCase):
    def check(self, plane, room, z):
        expected = [w for w in sorted(set(room)) if sees(plane, room, z, w)]
        for given in (list(room), tuple(room), shuffled(room, 6)):
            self.assertEqual(seen(plane, given, z), expected)
        return expected

    def test_small_rooms(self):
        self.assertEqual(seen(EAST, WHOLE, (1, 1)), WHOLE)
        self.assertEqual(
            seen(EAST, FRAME, (0, 0)), [(0, 0), (0, 1), (0, 2)]
        )
        self.assertEqual(seen(EAST, FRAME, (1, 0)), [])
        self.assertEqual(seen(EAST, [], (1, 1)), [])
        self.assertEqual(seen(EAST, [(1, 1), (1, 1)], (1, 1)), [(1, 1)])

    def test_some_rooms(self):
        for board in BOARDS:
            for plane in planes_of(board):
                for room in some_rooms(board):
                    for z in corners_to_ask(board):
                        self.check(plane, room, z)

    def test_seeing_is_mutual_and_goes_along_the_line(self):
        for board in ((3, 2), (8, 8)):
            for plane in planes_of(board):
                for room in some_rooms(board):
                    for z in corners_to_ask(board):
                        view = seen(plane, room, z)
                        for w in view:
                            self.assertLessEqual(set(plane.line(z, w)), set(view))
                        for w in corners_to_ask(board):
                            self.assertEqual(w in view, z in seen(plane, room, w))


class SightTreeTest(unittest.TestCase):
    def test_small_rooms(self):
        self.assertEqual(sight_tree(EAST, FRAME, (0, 0)), [
            ((0, 0), None), ((0, 1), (0, 0)), ((0, 2), (0, 1)),
        ])
        self.assertEqual(
            dict(sight_tree(EAST, WHOLE, (0, 0))),
            {
                (0, 0): None, (0, 1): (0, 0), (0, 2): (0, 1), (1, 0): (0, 0), (1, 1): (1, 0),
                (1, 2): (1, 1), (2, 0): (1, 0), (2, 1): (2, 0), (2, 2): (2, 1),
            },
        )
        self.assertEqual(sight_tree(EAST, FRAME, (1, 0)), [])
        self.assertEqual(sight_tree(EAST, [], (0, 0)), [])

    def test_some_rooms(self):
        for board in BOARDS:
            for plane in planes_of(board):
                for room in some_rooms(board):
                    for z in corners_to_ask(board)[:6]:
                        expected = [
                            (w, (plane.line(z, w)[-2:-1] or [None])[0])
                            for w in sorted(set(room)) if sees(plane, room, z, w)
                        ]
                        for given in (room, tuple(shuffled(room, 1))):
                            self.assertEqual(sight_tree(plane, given, z), expected)


class WatchTest(unittest.TestCase):
    def told(self, watch):
        return (watch.view(), watch.room())

    def test_walls_are_put_and_removed(self):
        watch = Watch(EAST, WHOLE, (0, 0))
        self.assertEqual(self.told(watch), (WHOLE, WHOLE))
        self.assertIsNone(watch.block((1, 0)))
        self.assertEqual(self.told(watch), ([(0, 0), (0, 1), (0, 2)], FRAME))
        self.assertIsNone(watch.unblock((1, 0)))
        self.assertEqual(self.told(watch), (WHOLE, WHOLE))

    def test_the_post_can_be_walled_off(self):
        watch = Watch(EAST, WHOLE, (1, 1))
        watch.block((1, 1))
        self.assertEqual(watch.view(), [])
        watch.block((0, 0))
        self.assertEqual(self.told(watch), ([], [c for c in WHOLE if c not in ((0, 0), (1, 1))]))
        watch.unblock((1, 1))
        self.assertIn((1, 1), watch.view())
        outside = Watch(EAST, FRAME, (1, 0))
        self.assertEqual(self.told(outside), ([], FRAME))
        outside.unblock((1, 0))
        self.assertEqual(self.told(outside), (WHOLE, WHOLE))

    def test_a_corner_that_never_was_in_the_room(self):
        watch = Watch(EAST, [(0, 0)], (0, 0))
        watch.unblock((2, 0))
        self.assertEqual(self.told(watch), ([(0, 0)], [(0, 0), (2, 0)]))
        watch.unblock((1, 0))
        self.assertEqual(watch.view(), [(0, 0), (1, 0), (2, 0)])

    def test_no_change(self):
        watch = Watch(EAST, FRAME + FRAME, (0, 0))
        before = self.told(watch)
        for corner in FRAME:
            with self.assertRaises(NoChange):
                watch.unblock(corner)
        with self.assertRaises(NoChange):
            watch.block((1, 0))
        self.assertEqual(self.told(watch), before)
        watch.block((2, 2))
        before = self.told(watch)
        for _ in range(2):
            with self.assertRaises(NoChange):
                watch.block((2, 2))
        self.assertEqual(self.told(watch), before)
        watch.unblock((2, 2))
        with self.assertRaises(NoChange):
            watch.unblock((2, 2))
        self.assertEqual(watch.room(), FRAME)

    def test_a_room_with_corners_twice(self):
        watch = Watch(EAST, FRAME * 3, (0, 0))
        self.assertEqual(watch.room(), FRAME)
        watch.block((0, 1))
        self.assertNotIn((0, 1), watch.room())
        self.assertEqual(watch.view(), [(0, 0)])

    def test_many_deeds_against_a_new_watch(self):
        for seed, board in enumerate(BOARDS * 3):
            chance = random.Random(seed)
            plane = planes_of(board)[seed % 4]
            room = list(some_rooms(board))[seed % 9]
            post = chance.choice(board_corners(board))
            watch = Watch(plane, shuffled(room, seed), post)
            present = set(room)
            for _ in range(40):
                corner = chance.choice(board_corners(board))
                if corner in present:
                    with self.assertRaises(NoChange):
                        watch.unblock(corner)
                    watch.block(corner)
                    present.remove(corner)
                else:
                    with self.assertRaises(NoChange):
                        watch.block(corner)
                    watch.unblock(corner)
                    present.add(corner)
                view = [w for w in sorted(present) if sees(plane, present, post, w)]
                self.assertEqual(self.told(watch), (view, sorted(present)))
                fresh = Watch(plane, sorted(present), post)
                self.assertEqual(self.told(fresh), (view, sorted(present)))

    def test_later_changes_change_nothing(self):
        room = list(FRAME)
        watch = Watch(EAST, room, (0, 0))
        before = self.told(watch)
        room.clear()
        watch.room().clear()
        watch.view().clear()
        self.assertEqual(self.told(watch), before)
        other = Watch(EAST, tuple(FRAME), (0, 0))
        other.block((0, 0))
        self.assertEqual(self.told(watch), before)


class ArgumentsTest(unittest.TestCase):
    def test_arguments_stay_as_they_were_and_results_are_new(self):
        room = FRAME[::-1] + FRAME
        before = list(room)
        for ask in (lambda: seen(EAST, room, (0, 0)), lambda: sight_tree(EAST, room, (0, 0))):
            first = ask()
            expected = list(first)
            self.assertTrue(expected)
            first.clear()
            self.assertEqual(ask(), expected)
        blocked_at(EAST, room, (0, 0), (2, 2))
        self.assertEqual(room, before)


if __name__ == "__main__":
    unittest.main()
