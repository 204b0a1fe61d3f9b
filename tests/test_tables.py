"""Points 19 and 20 and the interface of cornerplane/tables.py."""

import random
import unittest
from itertools import product

from cornerplane.tables import find_broken_pair
from tests.oracles import broken_pair, letters_of_half, pairs_of_half
from tests.samples import some_plane


class FindBrokenPairTest(unittest.TestCase):
    def test_the_pair_that_is_broken_first(self):
        # (0,0) to (2,1) begins north, though (0,0) to (1,1) begins east.
        self.assertEqual(find_broken_pair((2, 1), "rising", "ENE"), ((0, 0), (2, 1)))
        self.assertIsNone(find_broken_pair((2, 1), "rising", "EEE"))

    def test_all_tables_of_small_boards(self):
        for board in ((1, 1), (2, 1), (1, 2), (3, 1), (1, 3), (2, 2)):
            for half in ("rising", "falling"):
                count = len(pairs_of_half(board, half))
                for letters in product(letters_of_half(half), repeat=count):
                    table = "".join(letters)
                    self.assertEqual(
                        find_broken_pair(board, half, table), broken_pair(board, half, table)
                    )

    def test_some_tables_of_larger_boards(self):
        chance = random.Random(1)
        for board in ((3, 3), (4, 2), (2, 4)):
            for half in ("rising", "falling"):
                count = len(pairs_of_half(board, half))
                for _ in range(30):
                    table = "".join(chance.choices(letters_of_half(half), k=count))
                    self.assertEqual(
                        find_broken_pair(board, half, table), broken_pair(board, half, table)
                    )

    def test_one_wrong_letter_in_a_plane(self):
        chance = random.Random(2)
        board = (3, 3)
        for seed in range(30):
            plane = some_plane(board, seed)
            for half, table in (("rising", plane.rising), ("falling", plane.falling)):
                at = chance.randrange(len(table))
                first, second = letters_of_half(half)
                changed = table[:at] + (second if table[at] == first else first) + table[at + 1:]
                self.assertIsNone(find_broken_pair(board, half, table))
                self.assertEqual(
                    find_broken_pair(board, half, changed), broken_pair(board, half, changed)
                )

    def test_tables_without_letters(self):
        for board in ((0, 0), (0, 8), (8, 0)):
            self.assertIsNone(find_broken_pair(board, "rising", ""))
            self.assertIsNone(find_broken_pair(board, "falling", ""))

    def test_the_largest_board(self):
        self.assertIsNone(find_broken_pair((8, 8), "rising", "E" * 1296))
        self.assertIsNone(find_broken_pair((8, 8), "falling", "S" * 1296))
        self.assertEqual(
            find_broken_pair((8, 8), "falling", "ES" + "E" * 1294), ((0, 1), (2, 0))
        )


if __name__ == "__main__":
    unittest.main()
