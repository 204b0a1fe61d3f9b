"""Points 38 and 39 and the interface of cornerplane/evenness.py."""

import unittest
from itertools import permutations

from cornerplane.errors import NotEven
from cornerplane.evenness import rankings_of, uneven_certificate
from cornerplane.planes import Plane
from cornerplane.rankings import ranked_plane
from tests.oracles import consistent_tables, letters_of, pairs_of_half, slot_number
from tests.samples import some_plane, some_rankings

BOARDS = [(1, 1), (2, 1), (1, 2), (3, 2), (2, 4), (4, 4), (8, 8), (8, 1), (0, 3), (3, 0), (0, 0)]


def tables(plane):
    return (plane.rising, plane.falling)


def expected_certificate(plane):
    for half in ("rising", "falling"):
        seen = []
        for p, q in pairs_of_half(plane.board, half):
            letters = letters_of(plane.line(p, q))
            likeness = (slot_number(plane.board, half, p), q[0] - p[0], abs(q[1] - p[1]))
            for pair, other_likeness, other_letters in seen:
                if likeness == other_likeness and letters != other_letters:
                    return (pair, (p, q))
            seen.append(((p, q), likeness, letters))
    return None


def half_planes(board):
    """All planes of a small board with a plain half."""
    plain = "E" * len(pairs_of_half(board, "rising"))
    return (
        [Plane(board, table, plain) for table in consistent_tables(board, "rising")]
        + [Plane(board, plain, table) for table in consistent_tables(board, "falling")]
    )


class UnevenCertificateTest(unittest.TestCase):
    def test_a_rising_and_a_falling_half_that_are_not_even(self):
        # (0, 1) to (1, 2) and (1, 0) to (2, 1) begin in slot 1.
        east = "E" * 9
        tables_of_board = [
            table for table in consistent_tables((2, 2), "rising") if table[4] != table[6]
        ]
        self.assertTrue(tables_of_board)
        for table in tables_of_board:
            self.assertEqual(
                uneven_certificate(Plane((2, 2), table, east)),
                (((0, 1), (1, 2)), ((1, 0), (2, 1))),
            )
        for table in consistent_tables((2, 2), "falling"):
            first = pairs_of_half((2, 2), "falling").index(((0, 1), (1, 0)))
            second = pairs_of_half((2, 2), "falling").index(((1, 2), (2, 1)))
            if table[first] != table[second]:
                self.assertEqual(
                    uneven_certificate(Plane((2, 2), east, table)),
                    (((0, 1), (1, 0)), ((1, 2), (2, 1))),
                )

    def test_all_planes_of_small_boards_with_a_plain_half(self):
        for board in ((1, 1), (2, 1), (1, 2), (3, 1), (1, 3), (2, 2)):
            for plane in half_planes(board):
                self.assertEqual(uneven_certificate(plane), expected_certificate(plane))

    def test_some_planes(self):
        uneven = 0
        for board in BOARDS:
            if board == (8, 8):
                continue
            for seed in range(12):
                plane = some_plane(board, seed)
                expected = expected_certificate(plane)
                self.assertEqual(uneven_certificate(plane), expected)
                uneven += expected is not None
        self.assertGreater(uneven, 30)

    def test_the_rising_half_comes_first(self):
        rising = [
            plane.rising for plane in half_planes((2, 2)) if uneven_certificate(plane)
            and plane.falling == "E" * 9
        ][0]
        falling = [
            plane.falling for plane in half_planes((2, 2)) if uneven_certificate(plane)
            and plane.rising == "E" * 9
        ][0]
        both = Plane((2, 2), rising, falling)
        self.assertEqual(
            uneven_certificate(both), uneven_certificate(Plane((2, 2), rising, "E" * 9))
        )
        (p, q), (r, s) = uneven_certificate(Plane((2, 2), "E" * 9, falling))
        self.assertTrue(p[1] > q[1] and r[1] > s[1])

    def test_planes_of_rankings_are_even(self):
        for board in BOARDS:
            for seed in range(4):
                plane = ranked_plane(board, *some_rankings(board, seed))
                self.assertIsNone(uneven_certificate(plane))

    def test_the_even_planes_are_exactly_the_planes_of_rankings(self):
        for board in ((2, 1), (1, 2), (2, 2), (3, 1)):
            slots = range(sum(board))
            ranked = {
                tables(ranked_plane(board, one, other))
                for one in permutations(slots) for other in permutations(slots)
            }
            plain = "E" * len(pairs_of_half(board, "rising"))
            self.assertEqual(
                {tables(plane) for plane in half_planes(board) if not uneven_certificate(plane)},
                {pair for pair in ranked if plain in pair},
            )


class RankingsOfTest(unittest.TestCase):
    def check(self, plane):
        rankings = rankings_of(plane)
        self.assertIsInstance(rankings, tuple)
        self.assertEqual([part.__class__ for part in rankings], [list, list])
        again = ranked_plane(plane.board, *rankings)
        self.assertEqual((again.board, *tables(again)), (plane.board, *tables(plane)))

    def test_the_rankings_give_the_plane(self):
        for board in BOARDS:
            for seed in range(6):
                self.check(ranked_plane(board, *some_rankings(board, seed)))

    def test_all_rankings_of_small_boards(self):
        for board in ((1, 1), (2, 1), (2, 2), (3, 2)):
            for ranking in permutations(range(sum(board))):
                self.check(ranked_plane(board, ranking, ranking[1:] + ranking[:1]))

    def test_boards_with_a_side_of_0(self):
        self.assertEqual(rankings_of(Plane((0, 0), "", "")), ([], []))
        for board in ((0, 3), (3, 0), (8, 0)):
            self.check(Plane(board, "", ""))

    def test_uneven_planes_are_refused(self):
        refused = 0
        for board in ((2, 2), (3, 2), (4, 4)):
            for seed in range(10):
                plane = some_plane(board, seed)
                expected = expected_certificate(plane)
                if expected is None:
                    self.check(plane)
                    continue
                with self.assertRaises(NotEven) as caught:
                    rankings_of(plane)
                self.assertEqual(caught.exception.certificate, expected)
                refused += 1
        self.assertGreater(refused, 15)

    def test_the_plane_stays_and_results_are_new(self):
        plane = ranked_plane((3, 2), *some_rankings((3, 2), 5))
        before = tables(plane)
        rising, falling = rankings_of(plane)
        expected = (list(rising), list(falling))
        rising.clear()
        falling.clear()
        self.assertEqual(rankings_of(plane), expected)
        self.assertEqual(tables(plane), before)


if __name__ == "__main__":
    unittest.main()
