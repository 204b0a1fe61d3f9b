"""Point 93: `load_desk` of cornerplane/desk.py."""

import random
import unittest

from cornerplane.desk import Desk, load_desk
from cornerplane.errors import BadText, NothingToUndo, PlaneError
from tests.models import expected, replayed, told
from tests.samples import likely_line, some_rankings

BOARDS = [(2, 2), (3, 2), (1, 4), (0, 3), (3, 0), (0, 0), (8, 8)]
HUGE = "9" * 12000

HEAD = ["cornerplane", "board 2 1", "rising 0 2 1", "falling 2 1 0"]
DEEDS = ["stroke a 0,0 NE", "shape s 0,1 2,0", "pin s", "wall 1,1"]


def text_of(rows):
    return "".join(row + "\n" for row in rows)


def text_with(counts="done 3 4", head=HEAD, deeds=DEEDS):
    return text_of([*head, counts, *deeds])


def some_desk(board, seed):
    chance = random.Random(seed)
    rankings = some_rankings(board, seed) if seed % 2 else (None, None)
    desk = Desk(board, rising=rankings[0], falling=rankings[1])
    for _ in range(30 if sum(board) < 9 else 8):
        try:
            desk.do(likely_line(desk, chance))
        except PlaneError:
            continue
        if chance.random() < 0.3:
            desk.undo()
    for _ in range(chance.randrange(4)):
        if desk.done():
            desk.undo()
    return desk, rankings


class LoadDeskTest(unittest.TestCase):
    def refused(self, text, number):
        with self.assertRaises(BadText) as caught:
            load_desk(text)
        self.assertEqual(caught.exception.line_number, number, text[:200])

    def test_the_example_of_the_interface(self):
        text = "cornerplane\nboard 1 0\nrising 0\nfalling 0\ndone 1 2\nwall 0,0\nplace p 1,0\n"
        desk = load_desk(text)
        self.assertEqual(desk.undone(), ["place p 1,0"])
        self.assertEqual(desk.done(), ["wall 0,0"])
        self.assertEqual(desk.text(), text)

    def test_a_small_text(self):
        for in_effect in range(5):
            text = text_with(f"done {in_effect} 4")
            desk = load_desk(text)
            self.assertIsInstance(desk, Desk)
            self.assertEqual(desk.text(), text)
            self.assertEqual((desk.done(), desk.undone()), (DEEDS[:in_effect], DEEDS[in_effect:]))
            model = replayed((2, 1), [0, 2, 1], [2, 1, 0], DEEDS[:in_effect])
            self.assertEqual(told(desk), expected(model, DEEDS[:in_effect], DEEDS[in_effect:]))

    def test_no_deeds(self):
        for text in (
            "cornerplane\nboard 0 0\nrising\nfalling\ndone 0 0\n",
            "cornerplane\nboard 0 1\nrising 0\nfalling 0\ndone 0 0\n",
            "cornerplane\nboard 1 1\nrising 1 0\nfalling 0 1\ndone 0 0\n",
        ):
            desk = load_desk(text)
            self.assertEqual(desk.text(), text)
            with self.assertRaises(NothingToUndo):
                desk.undo()

    def test_the_text_of_a_desk_gives_the_desk(self):
        left = 0
        for board in BOARDS:
            for seed in range(8 if board != (8, 8) else 2):
                desk, rankings = some_desk(board, seed)
                again = load_desk(desk.text())
                self.assertEqual(told(again), told(desk))
                model = replayed(board, *rankings, desk.done())
                self.assertEqual(told(again), expected(model, desk.done(), desk.undone()))
                left += len(desk.undone())
                # The log goes on alike.
                for _ in range(len(desk.undone())):
                    desk.redo()
                    again.redo()
                self.assertEqual(told(again), told(desk))
                for _ in range(len(desk.done())):
                    desk.undo()
                    again.undo()
                self.assertEqual(told(again), told(desk))
        self.assertGreater(left, 20)

    def test_the_first_line(self):
        for row in (
            "", "Cornerplane", "cornerplane ", " cornerplane", "cornerplan", "cornerplane 1",
            "corner plane", "\tcornerplane", "plane", "cornerplane\t",
        ):
            self.refused(text_with(head=[row, *HEAD[1:]]), 1)
        self.refused("", 1)
        self.refused("\n", 1)
        self.refused("cornerplane", 1)
        self.refused("x", 1)
        self.refused(text_of(HEAD[1:]), 1)

    def test_the_board(self):
        for row in (
            "", "board", "board 2", "board 2 1 0", "board  2 1", "board 2  1", "board 2 1 ",
            " board 2 1", "board 02 1", "board 2 01", "board 9 0", "board 0 9", "board -1 1",
            "board 2 -1", "board 10 1", "board +2 1", "board 2,1", "board x 1", "Board 2 1",
            "plane 2 1", "board 2.0 1", "board " + HUGE + " 1", "board 1 " + HUGE, "board\t2 1",
            "board 2\t1",
        ):
            self.refused(text_with(head=[HEAD[0], row, *HEAD[2:]]), 2)
        self.refused("cornerplane\n", 2)
        self.refused("cornerplane\nboard 2 1", 2)

    def test_the_rising_ranking(self):
        for ranks in (
            "", " ", " 0", " 0 1", " 0 1 2 3", " 0 1 1", " 0 1 3", " 1 2 3", " 00 1 2",
            " 0 01 2", " 0 1 -2", " 0 1 +2", " 0 1 2 ", "  0 1 2", " 0  1 2", " 0 1 x", " 0,1,2",
            " 0 1 " + HUGE, " 0\t1 2", " 0 1 2 2", " 0 2 1 0",
        ):
            self.refused(text_with(head=[*HEAD[:2], "rising" + ranks, HEAD[3]]), 3)
        for row in ("falling 0 1 2", "Rising 0 1 2", "rising: 0 1 2", " rising 0 1 2", "0 1 2"):
            self.refused(text_with(head=[*HEAD[:2], row, HEAD[3]]), 3)
        self.refused(text_of(HEAD[:2]), 3)
        self.refused(text_of(HEAD[:2]) + HEAD[2], 3)
        self.refused("cornerplane\nboard 0 0\nrising \nfalling\ndone 0 0\n", 3)
        self.refused("cornerplane\nboard 0 0\nrising 0\nfalling\ndone 0 0\n", 3)

    def test_the_falling_ranking(self):
        for ranks in (
            "", " ", " 0", " 0 1", " 0 1 2 3", " 0 1 1", " 0 1 3", " 00 1 2", " 0 1 2 ",
            "  0 1 2", " 0 1 " + HUGE, " 0 1 -2",
        ):
            self.refused(text_with(head=[*HEAD[:3], "falling" + ranks]), 4)
        for row in ("rising 0 1 2", "Falling 0 1 2", " falling 0 1 2", "done 0 0"):
            self.refused(text_with(head=[*HEAD[:3], row]), 4)
        self.refused(text_of(HEAD[:3]), 4)
        self.refused(text_of(HEAD[:3]) + HEAD[3], 4)
        self.refused("cornerplane\nboard 0 0\nrising\nfalling \ndone 0 0\n", 4)

    def test_the_counts(self):
        for row in (
            "", "done", "done 4", "done 4 4 4", "done 5 4", "done -1 4", "done 0 -4", "done 03 4",
            "done 3 04", "done 00 4", "done  3 4", "done 3  4", "done 3 4 ", " done 3 4",
            "Done 3 4", "done 3,4", "done x 4", "done 3 x", "done +3 4", "done 3 +4", "undone 3 4",
            "done 10 9", f"done {HUGE} 4", f"done 1{HUGE} {HUGE}", f"done {HUGE} {HUGE[:-1]}8",
            f"done 3 0{HUGE}", "done 3.0 4", "done\t3 4", "done 3 4\t",
        ):
            self.refused(text_with(row), 5)
        self.refused(text_of(HEAD), 5)
        self.refused(text_of(HEAD) + "done 0 0", 5)

    def test_numbers_of_any_number_of_digits(self):
        # The form of the line is right, but the lines of so many deeds are not there.
        for row in (
            "done 3 5", "done 0 5", "done 5 5", "done 4 10", f"done 3 {HUGE}", f"done 0 {HUGE}",
            f"done {HUGE} {HUGE}", f"done {HUGE[1:]} {HUGE}", f"done {HUGE[1:]}8 {HUGE}",
        ):
            self.refused(text_with(row), 10)
            self.refused(text_with(row) + "wall 0,0", 10)
            self.refused(text_with(row, deeds=[]), 6)
            self.refused(text_with(row, deeds=DEEDS[:2] + ["wall 9,9", DEEDS[3]]), 8)

    def test_lines_of_deeds_that_are_of_no_form(self):
        for row in (
            "", " ", "stroke b", "wall 2,2", "wall 00,0", "wall 1,1 ", "drop a b", "undo",
            "stroke b 0,0 W", "shape t", "pin S", "place abcdefghijklm 0,0", "wall 1,1\t",
            "shape t" + " 0,0" * 25,
        ):
            for at in range(4):
                deeds = DEEDS[:at] + [row] + DEEDS[at + 1:]
                self.refused(text_with(deeds=deeds), 6 + at)
                self.refused(text_with("done 0 4", deeds=deeds), 6 + at)

    def test_deeds_that_are_refused(self):
        for row in (
            "place a 0,0", "drop s", "drop z", "erase s", "pin s", "pin a", "wall 1,1",
            "clear 0,0", "stroke b 0,0 EN", "unpin a",
        ):
            self.refused(text_with("done 3 5", deeds=DEEDS + [row]), 10)
            # A deed that was taken back must be doable too.
            self.refused(text_with("done 0 5", deeds=DEEDS + [row]), 10)
        self.refused(text_with("done 1 4", deeds=DEEDS[1:] + DEEDS[:1] + ["x"]), 10)
        self.refused(text_with("done 3 4", deeds=["pin s", *DEEDS[1:]]), 6)
        self.refused(text_with("done 2 3", deeds=["wall 1,1", "clear 1,1", "clear 1,1"]), 8)

    def test_lines_that_are_missing_or_not_ended(self):
        text = text_with()
        for count in range(len(text)):
            cut = text[:count]
            self.refused(cut, cut.count("\n") + 1)

    def test_what_stands_behind_the_last_line(self):
        for more in ("\n", "x", " ", "wall 0,0\n", "wall 0,0", "\n\n", "clear 1,1\n", "\t"):
            self.refused(text_with() + more, 10)
            self.refused(text_with("done 0 0", deeds=[]) + more, 6)
        # A line too many for the counts comes first behind them.
        self.refused(text_with("done 3 3"), 9)
        self.refused(text_with("done 0 0"), 6)

    def test_the_first_line_that_is_bad_is_told(self):
        bad = ["corner", "board 9 9", "rising", "falling", "done 9 8", "x", "y", "z", "z"]
        rows = [*HEAD, "done 3 4", *DEEDS]
        for first in range(9):
            mixed = rows[:first] + bad[first:]
            self.refused(text_of(mixed), first + 1)
            self.refused(text_of(rows[:first] + bad[first:first + 1] + rows[first + 1:]), first + 1)

    def test_line_feeds_alone_end_lines(self):
        for sign in ("\r\n", "\r", "\t", " \n", "\x0b", "\x0c"):
            self.refused(text_with().replace("\n", sign), 1)
            self.refused(text_with().replace("board 2 1\n", "board 2 1" + sign), 2)

    def test_accepted_texts_come_back(self):
        text, accepted = text_with(), 0
        signs = "0123456789 ,\nabNEsdopw"
        for seed in range(4000):
            chance = random.Random(seed)
            at = chance.randrange(len(text))
            changed = text[:at] + chance.choice(["", chance.choice(signs)]) + text[
                at + chance.randrange(2):]
            try:
                desk = load_desk(changed)
            except BadText as error:
                self.assertLessEqual(error.line_number, changed.count("\n") + 1)
                continue
            accepted += changed != text
            self.assertEqual(desk.text(), changed)
        self.assertGreater(accepted, 20)


if __name__ == "__main__":
    unittest.main()
