"""Point 25 and the interface of cornerplane/notation.py."""

import unittest

from cornerplane.errors import BadText, BrokenTable
from cornerplane.notation import format_plane, parse_plane
from cornerplane.planes import Plane
from tests.samples import some_plane

TEXT = "plane 2 1\nEEN\nSSE\n"


class FormatPlaneTest(unittest.TestCase):
    def test_texts(self):
        self.assertEqual(format_plane(Plane((2, 1), "EEN", "SSE")), TEXT)
        self.assertEqual(format_plane(Plane((0, 0), "", "")), "plane 0 0\n\n\n")
        self.assertEqual(format_plane(Plane((8, 0), "", "")), "plane 8 0\n\n\n")


class ParsePlaneTest(unittest.TestCase):
    def refused(self, text, line_number):
        with self.assertRaises(BadText) as caught:
            parse_plane(text)
        self.assertEqual(caught.exception.line_number, line_number, repr(text))

    def test_every_text_gives_its_plane(self):
        for board in [(w, h) for w in range(5) for h in range(5)] + [(8, 8), (8, 1), (0, 8)]:
            plane = some_plane(board, 6)
            again = parse_plane(format_plane(plane))
            self.assertEqual(again.board, plane.board)
            self.assertEqual((again.rising, again.falling), (plane.rising, plane.falling))
            self.assertEqual(format_plane(again), format_plane(plane))

    def test_every_side_from_0_to_8(self):
        for side in range(9):
            for board in ((side, 1), (1, side)):
                letters = "E" * (side * (side + 1) // 2)
                plane = parse_plane(f"plane {board[0]} {board[1]}\n{letters}\n{letters}\n")
                self.assertEqual(plane.board, board)
                self.assertEqual((plane.rising, plane.falling), (letters, letters))

    def test_a_bad_first_line(self):
        for line in (
            "", " ", "plane", "plane 2", "plane 2 1 ", " plane 2 1", "plane  2 1", "plane 2  1",
            "Plane 2 1", "plane 9 1", "plane 1 9", "plane 02 1", "plane 2 01", "plane -1 1",
            "plane +2 1", "plane 2 1 1", "plane two 1", "plane\t2 1", "plane 2,1", "plane 2 1\r",
            "plane 10 1", "plane 2 ", "board 2 1", "plane 12 ", "plane " + "1" * 9000 + " 1",
        ):
            self.refused(f"{line}\nEEN\nSSE\n", 1)
        self.refused("", 1)
        self.refused("plane 2 1", 1)
        self.refused("\n", 1)

    def test_a_bad_second_line(self):
        for line in ("", "EE", "EEEE", "EES", "een", "EE ", " EEN", "EEN ", "EEN\r", "EWN"):
            self.refused(f"plane 2 1\n{line}\nSSE\n", 2)
        self.refused("plane 2 1\n", 2)
        self.refused("plane 2 1\nEEN", 2)
        self.refused("plane 0 0\n", 2)
        self.refused("plane 0 0\nE\n\n", 2)

    def test_a_bad_third_line(self):
        for line in ("", "SE", "SSES", "SEN", "ses", "SE ", " SSE", "SSE ", "SSE\r"):
            self.refused(f"plane 2 1\nEEN\n{line}\n", 3)
        self.refused("plane 2 1\nEEN\n", 3)
        self.refused("plane 2 1\nEEN\nSSE", 3)
        self.refused("plane 0 0\n\n", 3)
        self.refused("plane 0 0\n\nS\n", 3)

    def test_what_follows_the_third_line(self):
        for more in ("\n", " ", "x", "x\n", "\n\n", TEXT):
            self.refused(TEXT + more, 4)
            self.refused("plane 0 0\n\n\n" + more, 4)

    def test_the_first_bad_line_counts(self):
        self.refused("plane 9 9\n\n\n\n", 1)
        self.refused("plane 2 1\nX\nY\nZ", 2)
        self.refused("plane 2 1\nEEN\nY\nZ", 3)

    def test_lines_are_cut_at_newlines_only(self):
        for mark in ("\r", "\x0b", "\x0c", "\x1c", "\x85", "\u2028"):
            self.refused(f"plane 2 1{mark}EEN{mark}SSE{mark}", 1)
            self.refused(f"plane 2 1\nEEN{mark}SSE\n", 2)

    def test_broken_tables_come_after_bad_texts(self):
        for text, half in (
            ("plane 2 1\nENE\nSSE\n", "rising"),
            ("plane 2 1\nEEN\nESE\n", "falling"),
            ("plane 2 1\nENE\nESE\n", "rising"),
        ):
            with self.assertRaises(BrokenTable) as caught:
                parse_plane(text)
            error = caught.exception
            start = (0, 0) if half == "rising" else (0, 1)
            self.assertEqual((error.half, error.start), (half, start))
        self.refused("plane 2 1\nENE\nXXX\n", 3)
        self.refused("plane 2 1\nENE\nESE\n\n", 4)


if __name__ == "__main__":
    unittest.main()
