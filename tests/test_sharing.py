"""Points 73 and 74 and the interface of cornerplane/sharing.py."""

import random
import unittest
from itertools import combinations

from cornerplane.closures import open_pair
from cornerplane.errors import NoReading, NotClosedSet
from cornerplane.planes import Plane
from cornerplane.sharing import Readings, find_shared
from tests.oracles import board_corners, closed_over, least_apart
from tests.samples import planes_of, shuffled, some_chain

BOARDS = [(1, 1), (2, 2), (3, 2), (8, 8), (0, 3), (3, 0), (0, 0)]
UNIT = Plane((1, 1), "E", "E")
EAST = Plane((2, 2), "E" * 9, "E" * 9)
OPEN = [(0, 0), (2, 2)]


def some_closed_sets(plane, seed, count):
    """Closed sets by chance, now and then an empty one, most of them with common corners."""
    chance = random.Random(seed)
    middle = some_chain(plane.board, seed, 1)
    sets = []
    for k in range(count):
        base = some_chain(plane.board, 100 * seed + k, chance.choice([0, 1, 2, 3, 3, 4, 5]))
        sets.append(closed_over(plane, base + middle * (chance.random() < 0.7)))
    return sets


def all_closed_sets(plane):
    corners = board_corners(plane.board)
    some = [
        list(few) for count in range(len(corners) + 1) for few in combinations(corners, count)
    ]
    return [few for few in some if open_pair(plane, few) is None]


class FindSharedTest(unittest.TestCase):
    def check(self, plane, sets):
        common = [
            corner for corner in board_corners(plane.board)
            if all(corner in one for one in sets)
        ]
        expected = ("shared", common[0]) if common else ("three", least_apart(sets))
        for given in (
            list(sets), tuple(tuple(one) for one in sets), [shuffled(one, 3) for one in sets],
        ):
            self.assertEqual(find_shared(plane, given), expected)
        return expected

    def refused(self, plane, sets, index):
        for given in (list(sets), tuple(tuple(one) for one in sets)):
            with self.assertRaises(NotClosedSet) as caught:
                find_shared(plane, given)
            self.assertEqual(caught.exception.index, index)
            self.assertEqual(caught.exception.certificate, open_pair(plane, sets[index]))

    def test_the_example_of_the_interface(self):
        self.assertEqual(
            find_shared(UNIT, [[(0, 0), (0, 1)], [(1, 0), (1, 1)]]), ("three", (0, 0, 1))
        )

    def test_no_sets(self):
        for plane in (UNIT, EAST, Plane((0, 0), "", "")):
            for given in ([], ()):
                self.assertEqual(find_shared(plane, given), ("shared", (0, 0)))

    def test_empty_and_equal_sets(self):
        self.assertEqual(find_shared(UNIT, [[]]), ("three", (0, 0, 0)))
        self.assertEqual(find_shared(UNIT, [[(1, 1)], []]), ("three", (0, 0, 1)))
        self.assertEqual(find_shared(UNIT, [[(1, 1)], [(1, 1)], []]), ("three", (0, 0, 2)))
        self.assertEqual(find_shared(UNIT, [[], [(1, 1)]]), ("three", (0, 0, 0)))
        self.assertEqual(find_shared(UNIT, [[(1, 1)]]), ("shared", (1, 1)))
        self.assertEqual(find_shared(UNIT, [[(1, 1), (1, 0)]] * 24), ("shared", (1, 0)))

    def test_three_sets_that_meet_two_by_two(self):
        sides = [EAST.line((0, 0), (2, 0)), EAST.line((2, 1), (2, 2)), EAST.line((0, 0), (2, 2))]
        self.assertEqual(find_shared(EAST, sides), ("three", (0, 0, 1)))
        sides = [EAST.line((0, 0), (1, 0)), EAST.line((1, 0), (1, 1)), EAST.line((1, 1), (0, 0))]
        self.assertEqual(find_shared(EAST, sides), ("shared", (1, 0)))
        sides = [EAST.line((0, 0), (0, 1)), EAST.line((0, 1), (1, 1)), EAST.line((1, 1), (0, 0))]
        self.assertEqual(find_shared(EAST, sides), ("three", (0, 1, 2)))
        self.assertEqual(
            find_shared(EAST, [board_corners((2, 2)), *sides]), ("three", (1, 2, 3))
        )

    def test_all_triples_of_closed_sets_of_a_small_board(self):
        for plane in [UNIT] + planes_of((1, 1))[:2]:
            sets = all_closed_sets(plane)
            for some in combinations(sets, 3):
                self.check(plane, list(some))

    def test_some_sets(self):
        kinds = []
        for board in BOARDS:
            for plane in planes_of(board):
                for seed in range(10):
                    answer = self.check(plane, some_closed_sets(plane, seed, seed))
                    kinds.append((answer[0], len(set(answer[1]))))
        self.assertGreater(kinds.count(("three", 3)), 5)
        self.assertGreater(kinds.count(("three", 2)), 5)
        self.assertGreater(sum(kind == "shared" for kind, count in kinds), 20)

    def test_many_sets(self):
        for plane in planes_of((8, 8)):
            self.check(plane, some_closed_sets(plane, 4, 24))

    def test_the_first_set_that_is_not_closed(self):
        self.assertEqual(open_pair(EAST, OPEN), ((0, 0), (2, 2), (1, 0)))
        self.refused(EAST, [OPEN], 0)
        self.refused(EAST, [[], [(0, 0)], OPEN, OPEN[::-1]], 2)
        self.refused(EAST, [[], [(0, 0), (1, 1)], OPEN], 1)
        self.refused(EAST, [[(2, 0), (0, 2)], OPEN], 0)
        for board in BOARDS[1:4]:
            for plane in planes_of(board):
                for seed in range(6):
                    sets = some_closed_sets(plane, seed, 4) + [[(0, 0), board]]
                    if open_pair(plane, sets[-1]):
                        self.refused(plane, sets + [[(0, 0), board]], 4)

    def test_the_sets_stay_as_they_were(self):
        sets = [[(1, 0), (0, 0), (1, 0)], [(1, 1)]]
        find_shared(UNIT, sets)
        self.assertEqual(sets, [[(1, 0), (0, 0), (1, 0)], [(1, 1)]])


def told(readings):
    return (readings.present(), readings.agreed(), readings.dispute())


class ReadingsTest(unittest.TestCase):
    def test_a_few_readings(self):
        readings = Readings(EAST)
        self.assertEqual(told(readings), ([], board_corners((2, 2)), None))
        self.assertEqual(readings.put([(0, 1), (0, 0)]), 0)
        self.assertEqual(readings.put(((0, 1), (1, 1))), 1)
        self.assertEqual(told(readings), ([0, 1], [(0, 1)], None))
        self.assertEqual(readings.put([(1, 1), (0, 0), (1, 0)]), 2)
        self.assertEqual(told(readings), ([0, 1, 2], [], (0, 1, 2)))
        self.assertIsNone(readings.withdraw(1))
        self.assertEqual(told(readings), ([0, 2], [(0, 0)], None))

    def test_numbers_are_not_used_again(self):
        readings = Readings(EAST)
        self.assertEqual([readings.put([(0, 0)]) for _ in range(3)], [0, 1, 2])
        readings.withdraw(2)
        self.assertEqual(readings.put([(0, 0)]), 3)
        for number in (3, 0, 1):
            readings.withdraw(number)
        self.assertEqual(readings.present(), [])
        self.assertEqual(readings.put([(0, 0)]), 4)
        self.assertEqual(readings.present(), [4])

    def test_the_numbers_of_a_dispute(self):
        readings = Readings(EAST)
        for corners in ([(0, 0)], [(2, 2)], [], [(0, 0)]):
            readings.put(corners)
        self.assertEqual(readings.dispute(), (0, 0, 1))
        readings.withdraw(1)
        self.assertEqual(readings.dispute(), (0, 0, 2))
        readings.withdraw(0)
        self.assertEqual(readings.dispute(), (2, 2, 2))
        readings.withdraw(2)
        self.assertIsNone(readings.dispute())
        self.assertEqual(told(readings), ([3], [(0, 0)], None))

    def test_a_set_that_is_not_closed(self):
        readings = Readings(EAST)
        for number in range(3):
            before = told(readings)
            for given in (OPEN, tuple(OPEN), OPEN[::-1] * 2):
                with self.assertRaises(NotClosedSet) as caught:
                    readings.put(given)
                self.assertEqual(caught.exception.index, number)
                self.assertEqual(caught.exception.certificate, ((0, 0), (2, 2), (1, 0)))
                self.assertEqual(told(readings), before)
            self.assertEqual(readings.put([(1, 1)]), number)

    def test_a_reading_that_is_not_there(self):
        readings = Readings(EAST)
        for number in (0, -1, 10 ** 30):
            with self.assertRaises(NoReading) as caught:
                readings.withdraw(number)
            self.assertEqual(caught.exception.number, number)
        readings.put([(0, 0)])
        readings.put([(0, 0), (0, 1)])
        readings.withdraw(0)
        before = told(readings)
        for number in (0, 2, -1, -2, 10 ** 30):
            with self.assertRaises(NoReading) as caught:
                readings.withdraw(number)
            self.assertEqual(caught.exception.number, number)
            self.assertEqual(told(readings), before)
        self.assertEqual(readings.put([]), 2)

    def test_boards_with_a_side_of_0(self):
        for board in ((0, 0), (0, 3), (3, 0)):
            readings = Readings(Plane(board, "", ""))
            self.assertEqual(readings.agreed(), board_corners(board))
            readings.put([(0, 0)])
            self.assertEqual(told(readings), ([0], [(0, 0)], None))
            readings.put([])
            self.assertEqual(told(readings), ([0, 1], [], (0, 0, 1)))

    def test_many_deeds_against_a_plain_model(self):
        for seed, plane in enumerate(planes_of((2, 2)) + planes_of((4, 3)) + planes_of((8, 8))):
            chance = random.Random(seed)
            readings, model, number = Readings(plane), {}, 0
            sets = some_closed_sets(plane, seed, 40)
            for corners in sets:
                self.assertEqual(readings.put(shuffled(corners, seed)), number)
                model[number] = corners
                number += 1
                if chance.random() < 0.8:
                    gone = chance.choice(sorted(model))
                    readings.withdraw(gone)
                    del model[gone]
                present = sorted(model)
                agreed = [
                    corner for corner in board_corners(plane.board)
                    if all(corner in model[key] for key in present)
                ]
                apart = least_apart([model[key] for key in present])
                self.assertEqual(apart is None, bool(agreed))
                dispute = None if apart is None else tuple(present[k] for k in apart)
                self.assertEqual(told(readings), (present, agreed, dispute))

    def test_later_changes_change_nothing(self):
        readings = Readings(EAST)
        corners = [(0, 0), (0, 1)]
        readings.put(corners)
        readings.put([])
        before = told(readings)
        corners.clear()
        readings.present().clear()
        readings.agreed().append((2, 2))
        self.assertEqual(told(readings), before)
        readings.withdraw(1)
        readings.agreed().clear()
        self.assertEqual(readings.agreed(), [(0, 0), (0, 1)])

    def test_two_lists_of_readings_share_nothing(self):
        one, other = Readings(EAST), Readings(EAST)
        one.put([])
        self.assertEqual(told(other), ([], board_corners((2, 2)), None))
        self.assertEqual(other.put([(0, 0)]), 0)


if __name__ == "__main__":
    unittest.main()
