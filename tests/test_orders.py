"""Points 40 to 43 and the interface of cornerplane/orders.py."""

import random
import unittest
from itertools import combinations, permutations, product

from cornerplane.errors import Ring
from cornerplane.orders import (
    find_ring, is_ring, order_chain, rankings_for, said, sure_order,
)
from cornerplane.rankings import ranked_plane
from tests.oracles import fits_ranking, paths_of, rings_of, said_by
from tests.samples import lines_of, long_stroke, some_rankings

HALVES = ("rising", "falling")
EN = ((0, 0), (1, 0), (1, 1))
NE = ((0, 0), (0, 1), (1, 1))
ES = ((0, 1), (1, 1), (1, 0))
SE = ((0, 1), (0, 0), (1, 0))
BOARDS = [(1, 1), (2, 1), (1, 2), (2, 2), (3, 2), (1, 4)]


def some_paths(board, seed, count):
    return random.Random(seed).choices(paths_of(board), k=count)


def agreeing_rankings(board, half, paths):
    return [
        ranking for ranking in permutations(range(sum(board)))
        if all(fits_ranking(board, half, ranking, path) for path in paths)
    ]


def all_said(board, half, paths):
    return {pair for path in paths for pair in said_by(board, half, path)}


def shortest_chain_length(pairs, s, t):
    """The least number of slots of a chain from s to t, found by trying all slots between."""
    between = list(range(min(s, t) + 1, max(s, t)))
    for count in range(len(between) + 1):
        for middle in combinations(between, count):
            chain = [s, *(middle if s < t else middle[::-1]), t]
            if all(pair in pairs for pair in zip(chain, chain[1:])):
                return len(chain)
    return None


class SaidTest(unittest.TestCase):
    def test_one_path(self):
        self.assertEqual(said((1, 1), "rising", [EN]), [(1, 0)])
        self.assertEqual(said((1, 1), "rising", [NE]), [(0, 1)])
        self.assertEqual(said((1, 1), "falling", [ES]), [(1, 0)])
        self.assertEqual(said((1, 1), "falling", [SE]), [(0, 1)])
        # In the falling half of a higher board, this path begins in slot 2.
        self.assertEqual(said((1, 3), "falling", [ES]), [(3, 2)])
        self.assertEqual(
            said((3, 2), "rising", [((1, 0), (1, 1), (2, 1), (2, 2), (3, 2))]),
            [(1, 2), (1, 4), (3, 2), (3, 4)],
        )

    def test_what_says_nothing(self):
        nothing = [((0, 0),), ((0, 0), (1, 0)), ((0, 0), (0, 1))]
        for half in HALVES:
            self.assertEqual(said((1, 1), half, []), [])
            self.assertEqual(said((1, 1), half, nothing), [])
        self.assertEqual(said((1, 1), "rising", [ES, SE]), [])
        self.assertEqual(said((1, 1), "falling", [EN, NE]), [])
        self.assertEqual(said((0, 0), "rising", [((0, 0),)]), [])

    def test_some_paths(self):
        for board in BOARDS:
            for seed in range(10):
                paths = some_paths(board, seed, seed * 4)
                for half in HALVES:
                    expected = sorted(all_said(board, half, paths))
                    self.assertEqual(said(board, half, paths), expected)
                    self.assertEqual(said(board, half, tuple(paths)), expected)

    def test_a_path_is_a_line_exactly_if_its_pairs_agree(self):
        for board in ((2, 1), (2, 2), (3, 1)):
            for seed in range(4):
                rankings = some_rankings(board, seed)
                plane = ranked_plane(board, *rankings)
                for path in paths_of(board):
                    agree = all(
                        ranking[s] > ranking[t]
                        for half, ranking in zip(HALVES, rankings)
                        for s, t in said(board, half, [path])
                    )
                    self.assertIs(plane.has_path(path), agree)


class RingTest(unittest.TestCase):
    def test_two_paths(self):
        self.assertIn(find_ring((1, 1), "rising", [EN, NE]), [(0, 1, 1, 0), (1, 0, 0, 1)])
        self.assertIn(find_ring((1, 1), "falling", [ES, EN, SE]), [(0, 2, 1, 0), (2, 0, 0, 1)])
        self.assertIsNone(find_ring((1, 1), "falling", [EN, NE]))
        self.assertIsNone(find_ring((1, 1), "rising", [EN, EN, ES, SE]))
        self.assertIsNone(find_ring((1, 1), "rising", []))
        # These lie in different rows and share no corner, but their slots.
        other = ((0, 1), (0, 2), (1, 2))
        self.assertIsNone(find_ring((2, 2), "rising", [((1, 0), (1, 1), (2, 1)), other]))
        self.assertIsNotNone(find_ring((2, 2), "rising", [((1, 0), (2, 0), (2, 1)), other]))

    def test_some_paths(self):
        found = []
        for board in BOARDS:
            for seed in range(12):
                paths = some_paths(board, seed, 3 * seed)
                for half in HALVES:
                    rings = rings_of(board, half, paths)
                    for given in (list(paths), tuple(paths)):
                        ring = find_ring(board, half, given)
                        found.append(ring is not None)
                        if ring is None:
                            self.assertEqual(rings, set())
                        else:
                            self.assertIsInstance(ring, tuple)
                            self.assertIn(ring, rings)
                            self.assertIs(is_ring(board, half, given, ring), True)
        self.assertGreater(found.count(True), 20)
        self.assertGreater(found.count(False), 20)

    def test_no_ring_exactly_if_a_ranking_agrees(self):
        for board in BOARDS:
            for seed in range(12):
                paths = some_paths(board, seed, 1 + seed)
                for half in HALVES:
                    agreeing = agreeing_rankings(board, half, paths)
                    self.assertIs(find_ring(board, half, paths) is None, bool(agreeing))


class IsRingTest(unittest.TestCase):
    def test_exactly_the_rings_are_accepted(self):
        for board in ((1, 1), (2, 1), (1, 2), (2, 2)):
            for seed in range(4):
                paths = some_paths(board, seed, 4)
                for half in HALVES:
                    rings = rings_of(board, half, paths)
                    indexes = range(-len(paths) - 1, len(paths) + 2)
                    slots = range(-2, sum(board) + 1)
                    for ring in product(indexes, indexes, slots, slots):
                        self.assertIs(is_ring(board, half, paths, ring), ring in rings)

    def test_rings_that_are_nearly_right(self):
        paths = [EN, ES, NE]
        for given in (list(paths), tuple(paths)):
            self.assertIs(is_ring((1, 1), "rising", given, (0, 2, 1, 0)), True)
            self.assertIs(is_ring((1, 1), "rising", given, (2, 0, 0, 1)), True)
            for ring in (
                (2, 0, 1, 0), (0, 2, 0, 1), (0, 1, 1, 0), (0, 0, 1, 0), (2, 2, 0, 1),
                (-3, 2, 1, 0), (0, -1, 1, 0), (-3, -1, 1, 0), (0, 3, 1, 0), (3, 2, 1, 0),
                (0, 2, 1, 1), (0, 2, 0, 0), (0, 2, 1, -1), (0, 2, -1, 0), (0, 2, 2, 1),
                (10 ** 30, 2, 1, 0), (0, -10 ** 30, 1, 0), (0, 2, 10 ** 30, 0),
            ):
                self.assertIs(is_ring((1, 1), "rising", given, ring), False)
            self.assertIs(is_ring((1, 1), "falling", given, (0, 2, 1, 0)), False)
        self.assertIs(is_ring((1, 1), "rising", [], (0, 0, 1, 0)), False)


class RankingsForTest(unittest.TestCase):
    def refused(self, half, board, paths):
        for given in (list(paths), tuple(paths)):
            with self.assertRaises(Ring) as caught:
                rankings_for(board, given)
            self.assertEqual(caught.exception.half, half)
            self.assertIn(caught.exception.certificate, rings_of(board, half, paths))

    def check(self, board, paths):
        rankings = rankings_for(board, paths)
        self.assertIsInstance(rankings, tuple)
        self.assertEqual([part.__class__ for part in rankings], [list, list])
        plane = ranked_plane(board, *rankings)
        for path in paths:
            self.assertIs(plane.has_path(path), True)

    def test_no_paths_and_paths_that_say_nothing(self):
        for board in BOARDS + [(0, 0), (0, 3), (3, 0), (8, 8)]:
            self.check(board, [])
            self.check(board, [((0, 0),), tuple((0, y) for y in range(board[1] + 1))])
        self.assertEqual(rankings_for((0, 0), []), ([], []))

    def test_some_paths(self):
        for board in BOARDS:
            for seed in range(12):
                paths = some_paths(board, seed, 1 + seed)
                bad = [half for half in HALVES if rings_of(board, half, paths)]
                if bad:
                    self.refused(bad[0], board, paths)
                else:
                    self.check(board, paths)
                    self.check(board, tuple(paths))

    def test_the_rising_half_is_refused_first(self):
        self.refused("rising", (1, 1), [ES, SE, EN, NE])
        self.refused("falling", (1, 1), [ES, SE, EN])
        self.refused("rising", (1, 1), [ES, EN, NE])

    def test_lines_of_a_ranked_plane_of_the_largest_board(self):
        for seed in range(6):
            plane = ranked_plane((8, 8), *some_rankings((8, 8), seed))
            self.check((8, 8), lines_of(plane, seed, 40))

    def test_long_paths_of_the_largest_board(self):
        chance = random.Random(3)
        paths = [long_stroke((8, 8), chance) for _ in range(6)]
        self.refused("rising" if rings_of((8, 8), "rising", paths) else "falling", (8, 8), paths)


class SureOrderTest(unittest.TestCase):
    def test_small_ones(self):
        paths = [((0, 0), (1, 0), (1, 1)), ((1, 0), (2, 0), (2, 1))]
        self.assertEqual(sure_order((2, 1), "rising", paths), [(1, 0), (2, 0), (2, 1)])
        self.assertEqual(sure_order((2, 1), "falling", paths), [])
        self.assertEqual(sure_order((0, 0), "rising", []), [])
        self.assertEqual(sure_order((3, 0), "falling", [((0, 0), (1, 0))]), [])

    def test_against_all_rankings(self):
        for board in BOARDS:
            for seed in range(14):
                paths = some_paths(board, seed, 1 + seed // 2)
                for half in HALVES:
                    agreeing = agreeing_rankings(board, half, paths)
                    if not agreeing:
                        continue
                    slots = range(sum(board))
                    expected = [
                        (s, t) for s in slots for t in slots
                        if all(ranking[s] > ranking[t] for ranking in agreeing)
                    ]
                    self.assertEqual(sure_order(board, half, paths), expected)
                    self.assertEqual(sure_order(board, half, tuple(paths)), expected)

    def test_it_can_be_more_than_what_is_said(self):
        pairs = 0
        for seed in range(40):
            plane = ranked_plane((4, 4), *some_rankings((4, 4), seed))
            paths = [line for line in lines_of(plane, seed, 40) if len(line) < 4]
            for half in HALVES:
                order = sure_order((4, 4), half, paths)
                self.assertLessEqual(all_said((4, 4), half, paths), set(order))
                pairs += len(order) - len(all_said((4, 4), half, paths))
        self.assertGreater(pairs, 0)


class OrderChainTest(unittest.TestCase):
    def check(self, board, half, paths):
        pairs = all_said(board, half, paths)
        order = sure_order(board, half, paths)
        slots = range(sum(board))
        for s, t in product(slots, repeat=2):
            chain = order_chain(board, half, paths, s, t)
            self.assertIs(chain is not None, (s, t) in order)
            if chain is None:
                self.assertTrue(s == t or shortest_chain_length(pairs, s, t) is None)
                continue
            self.assertIsInstance(chain, list)
            self.assertEqual((chain[0], chain[-1]), (s, t))
            self.assertIn(chain, (sorted(set(chain)), sorted(set(chain))[::-1]))
            self.assertLessEqual(set(zip(chain, chain[1:])), pairs)
            self.assertEqual(len(chain), shortest_chain_length(pairs, s, t))

    def test_the_example_of_the_interface(self):
        paths = [((0, 0), (1, 0), (1, 1)), ((1, 0), (2, 0), (2, 1))]
        self.assertEqual(order_chain((2, 1), "rising", paths, 2, 0), [2, 1, 0])
        self.assertEqual(order_chain((2, 1), "rising", paths, 2, 1), [2, 1])
        self.assertIsNone(order_chain((2, 1), "rising", paths, 0, 2))
        self.assertIsNone(order_chain((2, 1), "falling", paths, 2, 0))
        self.assertEqual(order_chain((2, 1), "rising", tuple(paths), 2, 0), [2, 1, 0])

    def test_equal_slots_and_slots_that_do_not_exist(self):
        for s in range(-2, 4):
            self.assertIsNone(order_chain((1, 1), "rising", [EN], s, s))
            if s not in (0, 1):
                self.assertIsNone(order_chain((1, 1), "rising", [EN], s, 0))
                self.assertIsNone(order_chain((1, 1), "rising", [EN], 1, s))
        self.assertIsNone(order_chain((0, 0), "rising", [], 0, 0))

    def test_some_paths(self):
        for board in BOARDS:
            for seed in range(14):
                paths = some_paths(board, seed, 1 + seed // 2)
                for half in HALVES:
                    if not rings_of(board, half, paths):
                        self.check(board, half, paths)

    def test_longer_chains(self):
        lengths = set()
        for board, count in (((4, 4), 25), ((5, 3), 40), ((8, 8), 6)):
            for seed in range(count):
                plane = ranked_plane(board, *some_rankings(board, seed))
                paths = [line for line in lines_of(plane, seed, 200) if len(line) < 5][:40]
                for half in HALVES:
                    self.check(board, half, paths)
                    slots = range(sum(board))
                    chains = [
                        order_chain(board, half, paths, s, t) for s in slots for t in slots
                    ]
                    lengths |= {len(chain) for chain in chains if chain}
        self.assertGreater(max(lengths), 3)

    def test_a_ring_is_refused_whatever_the_slots_are(self):
        paths = [EN, ES, NE]
        for given in (list(paths), tuple(paths)):
            for s, t in product(range(-1, 4), repeat=2):
                with self.assertRaises(Ring) as caught:
                    order_chain((2, 1), "rising", given, s, t)
                self.assertEqual(caught.exception.half, "rising")
                self.assertIn(
                    caught.exception.certificate, rings_of((2, 1), "rising", paths)
                )
                self.assertIsNone(order_chain((1, 1), "falling", given, s, s))
            with self.assertRaises(Ring) as caught:
                sure_order((2, 1), "falling", [*given, SE])
            self.assertEqual(caught.exception.half, "falling")
            self.assertIn(
                caught.exception.certificate, rings_of((2, 1), "falling", [*paths, SE])
            )
            # A ring of the other half is not in the way.
            self.assertEqual(sure_order((1, 1), "falling", given), [(1, 0)])


class ArgumentsTest(unittest.TestCase):
    def test_arguments_stay_as_they_were_and_results_are_new(self):
        board = (3, 2)
        paths = [((0, 0), (1, 0), (1, 1)), ((1, 0), (2, 0), (2, 1)), ES]
        before = list(paths)
        for ask in (
            lambda: said(board, "rising", paths),
            lambda: sure_order(board, "rising", paths),
            lambda: order_chain(board, "rising", paths, 2, 0),
            lambda: rankings_for(board, paths)[0],
            lambda: rankings_for(board, paths)[1],
        ):
            first = ask()
            expected = list(first)
            self.assertTrue(expected)
            first.clear()
            self.assertEqual(ask(), expected)
            self.assertEqual(paths, before)
        find_ring(board, "rising", paths)
        is_ring(board, "rising", paths, (0, 1, 1, 0))
        self.assertEqual(paths, before)


if __name__ == "__main__":
    unittest.main()
