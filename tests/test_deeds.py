"""Point 84 and the interface of cornerplane/deeds.py."""

import random
import unittest

from cornerplane.deeds import format_deed, parse_deed
from cornerplane.errors import BadText
from cornerplane.paths import format_path
from tests.oracles import board_corners, paths_of
from tests.samples import some_chain

BOARD = (3, 2)
BOARDS = [(2, 2), (3, 2), (8, 8), (0, 3), (3, 0), (0, 0)]

GOOD = {
    "stroke a 0,0": ("stroke", "a", ((0, 0),)),
    "stroke a1b2 0,0 EN": ("stroke", "a1b2", ((0, 0), (1, 0), (1, 1))),
    "stroke s 0,2 SE": ("stroke", "s", ((0, 2), (0, 1), (1, 1))),
    "stroke stroke 3,0 NN": ("stroke", "stroke", ((3, 0), (3, 1), (3, 2))),
    "drop a": ("drop", "a"),
    "drop abcdefghij12": ("drop", "abcdefghij12"),
    "shape x 1,1": ("shape", "x", ((1, 1),)),
    "shape x 0,0 3,0 3,2 0,0": ("shape", "x", ((0, 0), (3, 0), (3, 2), (0, 0))),
    "pin x": ("pin", "x"),
    "unpin x9": ("unpin", "x9"),
    "place p 2,1": ("place", "p", (2, 1)),
    "erase erase": ("erase", "erase"),
    "wall 3,2": ("wall", (3, 2)),
    "clear 0,0": ("clear", (0, 0)),
}

BAD = [
    "", " ", "a", "stroke", "drop", "shape", "pin", "unpin", "place", "erase", "wall", "clear",
    # Another word.
    "strokes a 0,0", "Stroke a 0,0", "put a 0,0", "undo", "redo", "erase1 a", "walls 0,0",
    "unwall 0,0", "stroke\ta 0,0", "dro a", "wall0,0", "STROKE a 0,0", "lamp", "a drop",
    # A part too many or too few.
    "stroke a", "stroke 0,0", "stroke a 0,0 E E", "stroke a b 0,0", "stroke a 0,0 E 1,0",
    "drop a b", "drop 0,0", "drop a 0,0", "shape x", "shape 0,0", "pin x y", "pin x 0,0",
    "unpin x y", "place p", "place p 0,0 1,1", "place 0,0", "erase a b", "wall", "wall a 0,0",
    "wall 0,0 1,1", "clear a", "clear 0,0 0,0", "wall a", "erase 0,0", "place p q",
    # Blanks, tabs and line feeds.
    " drop a", "drop a ", "drop  a", "stroke  a 0,0", "stroke a  0,0", "stroke a 0,0 ",
    "stroke a 0,0  E", "stroke a 0,0 E ", " stroke a 0,0", "shape x  0,0", "shape x 0,0 ",
    "shape x 0,0  1,1", "place p 0,0 ", "wall 0,0 ", "wall  0,0", " wall 0,0", "drop\ta",
    "drop a\n", "wall 0,0\n", "stroke a 0,0\n", "stroke a 0,0 E\n", "\nwall 0,0", "drop a\t",
    "shape x 0,0\n1,1", "wall 0,\n0", "shape x 0,0\t1,1", "place p\n0,0", "drop a\ndrop b",
    # Numbers.
    "wall 00,0", "wall 0,00", "wall 01,1", "wall 1,01", "wall -1,0", "wall 0,-1", "wall +1,0",
    "wall 1", "wall 1,", "wall ,1", "wall 1,1,1", "wall 1, 1", "wall 1 1", "wall 1.0,1",
    "wall (1,1)", "wall x,y", "wall 4,0", "wall 0,3", "wall 9,9", "wall 10,0", "wall 1;1",
    "wall " + "9" * 5000 + ",0", "clear 4,2", "clear 01,2", "place p 4,0", "place p 00,0",
    "shape x 0,0 4,0", "shape x 0,0 01,0", "shape x 0,0 1", "stroke a 4,0", "stroke a 00,0 E",
    # Paths that are none, leave the board or begin at the greater end.
    "stroke a 0,0 W", "stroke a 1,1 S", "stroke a 0,1 S", "stroke a 0,2 ESN", "stroke a 0,0 NES",
    "stroke a 0,0 EEEE", "stroke a 0,0 NNN", "stroke a 0,0 e", "stroke a 0,0 EX",
    "stroke a 1,0 W", "stroke a 0,0 S", "stroke a 0,0E", "stroke a E",
    # Names.
    "drop A", "drop 1a", "drop a_b", "drop a-b", "drop a+b", "drop abcdefghij123", "drop a,b",
    "drop 1", "drop aB", "drop a.b", "drop ~", "stroke 1 0,0", "stroke A 0,0", "shape 2x 0,0",
    "stroke abcdefghij123 0,0", "place P 0,0", "pin X", "unpin 0", "erase e!", "place 0 0,0",
    "shape abcdefghijklm 0,0", "place abcdefghijklm 0,0", "drop " + "a" * 5000,
]


class ParseDeedTest(unittest.TestCase):
    def refused(self, board, line):
        with self.assertRaises(BadText) as caught:
            parse_deed(board, line)
        self.assertEqual(caught.exception.line_number, 1, line)

    def test_each_form(self):
        for line, deed in GOOD.items():
            self.assertEqual(parse_deed(BOARD, line), deed)
            self.assertEqual(format_deed(deed), line)
            self.assertIsInstance(parse_deed(BOARD, line), tuple)

    def test_lines_that_are_of_no_form(self):
        for line in BAD:
            self.refused(BOARD, line)

    def test_the_limits_of_the_form(self):
        corners = ["0,0", "3,2", "1,1"] * 8
        line = " ".join(["shape", "abcdefghij12"] + corners)
        word, name, chain = parse_deed(BOARD, line)
        self.assertEqual((word, name, len(chain)), ("shape", "abcdefghij12", 24))
        self.refused(BOARD, line + " 0,0")
        self.refused(BOARD, " ".join(["shape", "abcdefghij123"] + corners))
        self.refused(BOARD, " ".join(["shape"] + corners))
        for length in range(1, 13):
            self.assertEqual(parse_deed(BOARD, "pin " + "z" * length), ("pin", "z" * length))
        self.refused(BOARD, "pin " + "z" * 13)
        self.refused(BOARD, "pin ")

    def test_the_signs_of_a_name(self):
        for code in range(9, 300):
            sign = chr(code)
            if sign in "abcdefghijklmnopqrstuvwxyz":
                self.assertEqual(parse_deed(BOARD, f"pin {sign}"), ("pin", sign))
            else:
                self.refused(BOARD, f"pin {sign}")
            if sign in "abcdefghijklmnopqrstuvwxyz0123456789":
                self.assertEqual(parse_deed(BOARD, f"pin a{sign}"), ("pin", f"a{sign}"))
            else:
                self.refused(BOARD, f"pin a{sign}")

    def test_every_corner_and_those_around_the_board(self):
        for board in BOARDS:
            for x in range(-1, 11):
                for y in range(-1, 11):
                    if (x, y) in board_corners(board):
                        for line, deed in (
                            (f"wall {x},{y}", ("wall", (x, y))),
                            (f"clear {x},{y}", ("clear", (x, y))),
                            (f"place p {x},{y}", ("place", "p", (x, y))),
                            (f"shape s {x},{y} 0,0", ("shape", "s", ((x, y), (0, 0)))),
                            (f"stroke s {x},{y}", ("stroke", "s", ((x, y),))),
                        ):
                            self.assertEqual(parse_deed(board, line), deed)
                    else:
                        for line in (
                            f"wall {x},{y}", f"clear {x},{y}", f"place p {x},{y}",
                            f"shape s {x},{y} 0,0", f"shape s 0,0 {x},{y}", f"stroke s {x},{y}",
                        ):
                            self.refused(board, line)

    def test_every_path(self):
        for board in ((2, 2), (3, 1), (0, 3), (3, 0), (0, 0)):
            for path in paths_of(board):
                line = f"stroke name {format_path(path)}"
                self.assertEqual(parse_deed(board, line), ("stroke", "name", path))
                if len(path) > 1:
                    x, y = path[-1]
                    back = {"E": "W", "N": "S", "S": "N"}
                    letters = "".join([back[letter] for letter in line.split(" ")[-1]][::-1])
                    self.refused(board, f"stroke name {x},{y} {letters}")

    def test_changed_lines(self):
        signs = "abz019,-+ENSW \n\t"
        for seed in range(4000):
            chance = random.Random(seed)
            line = chance.choice(sorted(GOOD))
            at = chance.randrange(len(line) + 1)
            line = line[:at] + chance.choice(["", chance.choice(signs)]) + line[
                at + chance.randrange(2):]
            try:
                deed = parse_deed(BOARD, line)
            except BadText:
                continue
            # What is read is the one deed that has exactly this line.
            self.assertEqual(format_deed(deed), line)
            self.assertIn(deed[0], line)


class FormatDeedTest(unittest.TestCase):
    def test_some_deeds(self):
        for board in BOARDS:
            for seed in range(30):
                chance = random.Random(seed)
                name = chance.choice("abz") + "".join(chance.choices("aq09", k=seed % 12))
                chain = tuple(some_chain(board, seed, 1 + seed % 24))
                for deed in (
                    ("drop", name), ("pin", name), ("unpin", name), ("erase", name),
                    ("shape", name, chain), ("place", name, chain[0]), ("wall", chain[0]),
                    ("clear", chain[-1]),
                    ("stroke", name, chance.choice(paths_of((min(board[0], 3), min(board[1], 2))))),
                ):
                    line = format_deed(deed)
                    self.assertEqual(parse_deed(board, line), deed)


if __name__ == "__main__":
    unittest.main()
