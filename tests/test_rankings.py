"""Points 36, 37, 44 and 45 and the interface of cornerplane/rankings.py."""

import unittest
from itertools import permutations, product

from cornerplane.errors import BadRanking
from cornerplane.planes import Plane
from cornerplane.rankings import ranked_plane, ranked_steeps, ruler_ranking, stray
from tests.oracles import board_corners, pairs_of_half, ranked_path
from tests.samples import some_plane, some_rankings

BOARDS = [(1, 1), (2, 1), (1, 2), (3, 2), (2, 4), (4, 4), (8, 8), (8, 1), (0, 3), (3, 0), (0, 0)]


def tables(plane):
    return (plane.rising, plane.falling)


def ruler_plane(board):
    ranking = ruler_ranking(sum(board))
    return ranked_plane(board, ranking, ranking)


class RankedSteepsTest(unittest.TestCase):
    def test_the_highest_ranks_ascending(self):
        ranking = [3, 0, 5, 1, 4, 2]
        self.assertEqual(ranked_steeps(ranking, 0, 6, 3), [0, 2, 4])
        self.assertEqual(ranked_steeps(ranking, 0, 6, 4), [0, 2, 4, 5])
        self.assertEqual(ranked_steeps(ranking, 3, 3, 1), [4])
        self.assertEqual(ranked_steeps(ranking, 3, 3, 2), [4, 5])
        self.assertEqual(ranked_steeps(tuple(ranking), 1, 3, 2), [2, 3])

    def test_none_and_all_of_them(self):
        ranking = [1, 3, 0, 2]
        for slot in range(4):
            for steps in range(5 - slot):
                self.assertEqual(ranked_steeps(ranking, slot, steps, 0), [])
                self.assertEqual(
                    ranked_steeps(ranking, slot, steps, steps), list(range(slot, slot + steps))
                )
        self.assertEqual(ranked_steeps([], 0, 0, 0), [])

    def test_every_choice_against_a_count(self):
        for ranking in permutations(range(5)):
            for slot in range(5):
                for steps in range(6 - slot):
                    for steep in range(steps + 1):
                        slots = range(slot, slot + steps)
                        expected = [
                            s for s in slots
                            if sum(ranking[t] > ranking[s] for t in slots) < steep
                        ]
                        self.assertEqual(ranked_steeps(ranking, slot, steps, steep), expected)


class RankedPlaneTest(unittest.TestCase):
    def refused(self, half, board, rising, falling):
        with self.assertRaises(BadRanking) as caught:
            ranked_plane(board, rising, falling)
        self.assertEqual(caught.exception.half, half)

    def test_the_example_of_the_interface(self):
        plane = ranked_plane((2, 1), [0, 2, 1], [0, 1, 2])
        self.assertEqual(tables(plane), ("EEN", "EEE"))
        self.assertEqual(plane.board, (2, 1))

    def test_the_halves_have_slots_of_their_own(self):
        # In the falling half, slot 0 is that of the steps from the north-western corner.
        plane = ranked_plane((2, 1), [0, 1, 2], [2, 1, 0])
        self.assertEqual(tables(plane), ("EEE", "SSS"))
        plane = ranked_plane((1, 2), [0, 2, 1], [1, 0, 2])
        self.assertEqual(plane.line((0, 0), (1, 2)), [(0, 0), (1, 0), (1, 1), (1, 2)])
        self.assertEqual(plane.line((0, 2), (1, 0)), [(0, 2), (0, 1), (1, 1), (1, 0)])

    def test_the_steep_steps_lie_in_the_highest_slots(self):
        for board in BOARDS:
            for seed in range(3):
                rankings = some_rankings(board, seed)
                plane = ranked_plane(board, *rankings)
                for half, ranking in zip(("rising", "falling"), rankings):
                    for p, q in pairs_of_half(board, half):
                        expected = ranked_path(board, half, ranking, p, q)
                        self.assertEqual(plane.line(p, q), list(expected))

    def test_it_is_always_a_plane(self):
        for board in ((2, 2), (3, 1), (1, 3), (3, 2)):
            for ranking in permutations(range(sum(board))):
                plane = ranked_plane(board, ranking, ranking[::-1])
                Plane(board, plane.rising, plane.falling)

    def test_several_rankings_may_give_the_same_plane(self):
        # In both, each rising line that has a step in slot 1 is steep there.
        one = ranked_plane((2, 1), [0, 2, 1], [0, 1, 2])
        other = ranked_plane((2, 1), [1, 2, 0], [0, 1, 2])
        self.assertEqual(tables(one), tables(other))
        # A board with one row has no pairs at all.
        planes = [
            tables(ranked_plane((3, 0), rising, falling))
            for rising in permutations(range(3)) for falling in permutations(range(3))
        ]
        self.assertEqual(set(planes), {("", "")})

    def test_boards_with_a_side_of_0(self):
        self.assertEqual(tables(ranked_plane((0, 0), [], [])), ("", ""))
        self.assertEqual(tables(ranked_plane((0, 0), (), ())), ("", ""))
        self.assertEqual(tables(ranked_plane((0, 2), [1, 0], [0, 1])), ("", ""))
        self.refused("rising", (0, 0), [0], [])
        self.refused("falling", (0, 0), [], [0])
        self.refused("rising", (2, 0), [], [0, 1])
        self.refused("falling", (0, 2), [0, 1], [])

    def test_lists_that_are_no_ranking(self):
        good = [2, 0, 1]
        for bad in (
            [], [0], [0, 1], [0, 1, 2, 3], [0, 0, 1], [1, 2, 3], [0, 1, 3], [-1, 0, 1],
            [0, 1, 1], [2, 2, 2], [0, 1, 10 ** 30], [0, 1, 2, 2],
        ):
            for kind in (list, tuple):
                self.refused("rising", (2, 1), kind(bad), good)
                self.refused("falling", (2, 1), good, kind(bad))
                self.refused("rising", (2, 1), kind(bad), kind(bad))


class RulerRankingTest(unittest.TestCase):
    def test_small_sizes(self):
        self.assertEqual(ruler_ranking(0), [])
        self.assertEqual(ruler_ranking(1), [0])
        self.assertEqual(ruler_ranking(2), [0, 1])
        self.assertEqual(ruler_ranking(3), [0, 2, 1])
        self.assertEqual(ruler_ranking(4), [0, 2, 1, 3])
        self.assertEqual(ruler_ranking(5), [0, 3, 2, 4, 1])
        self.assertEqual(ruler_ranking(8), [0, 4, 2, 6, 1, 5, 3, 7])

    def test_mirrored_digits(self):
        for size in range(2, 70):
            digits = min(k for k in range(8) if 2 ** k >= size)
            mirrored = [int(f"{slot:b}".zfill(digits)[::-1], 2) for slot in range(size)]
            expected = [sum(other < number for other in mirrored) for number in mirrored]
            self.assertEqual(ruler_ranking(size), expected)

    def test_it_is_a_ranking(self):
        for board in BOARDS:
            ruler_plane(board)


class StrayTest(unittest.TestCase):
    def test_equal_corners_and_corners_in_one_row_or_column(self):
        plane = some_plane((3, 2), 1)
        for p, q in product(board_corners((3, 2)), repeat=2):
            if p[0] == q[0] or p[1] == q[1]:
                self.assertEqual(stray(plane, p, q), 0)

    def test_a_line_that_goes_east_first(self):
        plane = Plane((4, 4), "E" * 100, "E" * 100)
        self.assertEqual(stray(plane, (0, 0), (4, 4)), 16)
        self.assertEqual(stray(plane, (4, 4), (0, 0)), 16)
        self.assertEqual(stray(plane, (0, 4), (3, 3)), 3)
        self.assertEqual(stray(plane, (0, 0), (1, 2)), 2)

    def test_every_line_against_the_formula(self):
        for board in ((1, 1), (3, 2), (2, 4), (5, 3)):
            for seed in range(3):
                plane = some_plane(board, seed)
                for p, q in product(board_corners(board), repeat=2):
                    line = plane.line(min(p, q), max(p, q))
                    others = [a[0] == b[0] for a, b in zip(line, line[1:])]
                    n, b = len(others), sum(others)
                    expected = max(
                        abs(n * sum(others[:i]) - b * i) for i in range(n + 1)
                    )
                    self.assertEqual(stray(plane, p, q), expected)

    def test_the_lines_of_two_rulers_stay_near(self):
        for board in BOARDS + [(7, 5), (3, 8)]:
            plane = ruler_plane(board)
            for p, q in product(board_corners(board), repeat=2):
                if p < q:
                    steps = abs(p[0] - q[0]) + abs(p[1] - q[1])
                    self.assertLess(stray(plane, p, q), 2 * steps)


class ArgumentsTest(unittest.TestCase):
    def test_arguments_stay_as_they_were(self):
        rising, falling = [2, 0, 1], [1, 2, 0]
        plane = ranked_plane((2, 1), rising, falling)
        before = tables(plane)
        self.assertEqual(tables(ranked_plane((2, 1), (2, 0, 1), (1, 2, 0))), before)
        ranked_steeps(rising, 0, 3, 2).clear()
        self.assertEqual((rising, falling), ([2, 0, 1], [1, 2, 0]))
        rising.clear()
        falling.reverse()
        self.assertEqual(tables(plane), before)

    def test_a_change_to_a_result_changes_no_later_answer(self):
        ruler_ranking(5).clear()
        self.assertEqual(ruler_ranking(5), [0, 3, 2, 4, 1])
        ranked_steeps((2, 0, 1), 0, 3, 2).clear()
        self.assertEqual(ranked_steeps((2, 0, 1), 0, 3, 2), [0, 2])


if __name__ == "__main__":
    unittest.main()
