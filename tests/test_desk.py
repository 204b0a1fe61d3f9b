"""Points 83 to 92 and the interface of cornerplane/desk.py but `load_desk`."""

import random
import unittest

from cornerplane.changes import amend, changed_pairs, conflicting_pairs
from cornerplane.desk import Desk, load_desk
from cornerplane.errors import (
    BadRanking, BadText, Blocked, NameTaken, NoChange, NothingToRedo, NothingToUndo, Pinned,
    PlaneError, UnknownName,
)
from cornerplane.lamps import find_lamp
from cornerplane.paths import parse_path
from cornerplane.rankings import ranked_plane, ruler_ranking
from cornerplane.regions import Region
from tests.models import Model, expected, replayed, told
from tests.oracles import board_corners
from tests.samples import likely_line, some_rankings

BOARDS = [(2, 2), (3, 2), (1, 4), (0, 3), (3, 0), (0, 0)]

# A desk with something of each kind, on a board of 3 by 2.
LINES = [
    "stroke a 0,0 NEE", "shape s 0,0 3,0 3,2", "shape t 1,1", "pin s", "place p 0,2",
    "place q 3,1", "wall 1,1", "wall 2,0", "shape u 0,2 3,0", "stroke b 0,2 EES", "pin t",
]


def desk_with(lines, board=(3, 2)):
    desk = Desk(board)
    desk.do_all(lines)
    return desk


class DeskCase(unittest.TestCase):
    def refused(self, desk, line, error):
        """The desk refuses the line with this error, by do and by do_all, and stays as it is."""
        before = told(desk)
        for ask in (
            lambda: desk.do(line), lambda: desk.do_all([line]), lambda: desk.do_all((line,)),
            lambda: desk.do_all([line, "no deed"]),
        ):
            with self.assertRaises(type(error)) as caught:
                ask()
            self.assertIs(type(caught.exception), type(error), line)
            self.assertEqual(vars(caught.exception), vars(error), line)
            self.assertEqual(told(desk), before)


class NewDeskTest(DeskCase):
    def test_the_plane_of_the_rulers(self):
        for board in BOARDS + [(8, 8)]:
            ruler = ruler_ranking(sum(board))
            plane = ranked_plane(board, ruler, ruler)
            for desk in (
                Desk(board), Desk(board, rising=None), Desk(board, rising=None, falling=None),
                Desk(board, rising=ruler), Desk(board, falling=tuple(ruler)),
            ):
                self.assertEqual(desk.board, board)
                self.assertEqual(
                    (desk.plane.board, desk.plane.rising, desk.plane.falling),
                    (board, plane.rising, plane.falling),
                )
                self.assertEqual(told(desk), expected(Model(board), [], []))

    def test_the_plane_of_two_rankings(self):
        for board in BOARDS:
            for seed in range(4):
                rising, falling = some_rankings(board, seed)
                for given in ((rising, falling), (tuple(rising), tuple(falling))):
                    desk = Desk(board, rising=given[0], falling=given[1])
                    self.assertEqual(told(desk), expected(Model(board, rising, falling), [], []))
                desk = Desk(board, falling=falling)
                self.assertEqual(told(desk), expected(Model(board, None, falling), [], []))

    def test_rankings_are_passed_by_name(self):
        with self.assertRaises(TypeError):
            Desk((1, 0), [0], [0])

    def test_lists_that_are_no_rankings(self):
        good = [0, 1, 2]
        for bad in (
            [], [0, 1], [0, 1, 2, 3], [0, 1, 1], [1, 2, 3], [0, 1, -1], [0, 1, 10 ** 30], (2, 1),
        ):
            for rising, falling, half in (
                (bad, None, "rising"), (bad, good, "rising"), (bad, bad, "rising"),
                (None, bad, "falling"), (good, bad, "falling"),
            ):
                with self.assertRaises(BadRanking) as caught:
                    Desk((2, 1), rising=rising, falling=falling)
                self.assertEqual(caught.exception.half, half)

    def test_later_changes_of_the_rankings_change_nothing(self):
        rising, falling = [2, 0, 1], [0, 2, 1]
        desk = Desk((2, 1), rising=rising, falling=falling)
        self.assertEqual((rising, falling), ([2, 0, 1], [0, 2, 1]))
        before = told(desk)
        rising.reverse()
        falling.clear()
        self.assertEqual(told(desk), before)
        self.assertIn("rising 2 0 1\nfalling 0 2 1\n", desk.text())


class DoTest(DeskCase):
    def test_the_example_of_the_interface(self):
        desk = Desk((1, 0))
        done = desk.do_all(["wall 0,0", "place p 1,0"])
        undone = desk.undo()
        self.assertEqual((done, undone), (None, None))
        text = desk.text()
        self.assertEqual(
            text, "cornerplane\nboard 1 0\nrising 0\nfalling 0\ndone 1 2\nwall 0,0\nplace p 1,0\n"
        )
        self.assertEqual(load_desk(text).undone(), ["place p 1,0"])

    def test_each_deed(self):
        desk = Desk((3, 2))
        for line in LINES + ["unpin t", "drop a", "erase q", "erase t", "clear 2,0"]:
            self.assertIsNone(desk.do(line))
        self.assertEqual(desk.strokes(), [("b", parse_path((3, 2), "0,2 EES"))])
        self.assertEqual(
            desk.shapes(), [("s", ((0, 0), (3, 0), (3, 2))), ("u", ((0, 2), (3, 0)))]
        )
        self.assertEqual(desk.pinned(), ["s"])
        self.assertEqual(desk.places(), [("p", (0, 2))])
        self.assertEqual(desk.walls(), [(1, 1)])
        self.assertEqual(len(desk.kept()), 4)
        self.assertEqual(
            told(desk), expected(replayed((3, 2), None, None, desk.done()), desk.done(), [])
        )

    def test_bad_text(self):
        desk = desk_with(LINES)
        for line in (
            "", "undo", "stroke a", "stroke A 0,0", "stroke a 0,0 W", "drop a ", " drop a",
            "shape x", "place p", "place p 4,0", "wall 3,3", "wall 00,0", "pin s\n", "drop a\n",
            "wall 1,1 ", "erase abcdefghijklm", "shape x" + " 0,0" * 25, "stroke q 3,0 W",
        ):
            self.refused(desk, line, BadText(1))

    def test_a_name_that_is_taken(self):
        desk = desk_with(LINES)
        for name in ("a", "b", "s", "t", "u", "p", "q"):
            for line in (f"stroke {name} 0,0", f"shape {name} 0,0 1,1", f"place {name} 2,2"):
                self.refused(desk, line, NameTaken(name))
        # The name comes before the conflict.
        self.refused(desk, "stroke p 0,0 ENE", NameTaken("p"))
        desk.do_all(["drop a", "erase p", "unpin s", "erase s"])
        desk.do_all(["shape a 0,0", "stroke p 0,0", "place s 2,2"])
        self.refused(desk, "place a 0,0", NameTaken("a"))

    def test_a_name_that_is_unknown(self):
        desk = desk_with(LINES)
        for word, names in (
            ("drop", "stpqz"), ("pin", "abpqz"), ("unpin", "abpqz"), ("erase", "abz"),
        ):
            for name in names:
                self.refused(desk, f"{word} {name}", UnknownName(name))
        self.refused(Desk((0, 0)), "drop a", UnknownName("a"))

    def test_a_pinned_shape_is_not_erased(self):
        desk = desk_with(LINES)
        for name in ("s", "t"):
            self.refused(desk, f"erase {name}", Pinned(name))
        desk.do_all(["unpin s", "erase s"])
        self.assertEqual([name for name, chain in desk.shapes()], ["t", "u"])

    def test_no_change(self):
        desk = desk_with(LINES)
        for line in ("pin s", "pin t", "unpin u", "wall 1,1", "wall 2,0", "clear 0,0"):
            self.refused(desk, line, NoChange())
        desk.do_all(["unpin s", "clear 1,1"])
        for line in ("unpin s", "clear 1,1"):
            self.refused(desk, line, NoChange())

    def test_a_stroke_that_is_blocked(self):
        desk = desk_with(LINES)
        # The strokes a and b and the diagonal of s from (0, 0) to (3, 2).
        self.refused(desk, "stroke c 0,0 ENE", Blocked("a", ((0, 0), (1, 0), (1, 1))))
        self.refused(desk, "stroke c 0,2 SEE", Blocked("b", ((0, 2), (0, 1), (2, 1))))
        for name, path in desk.kept():
            self.assertTrue(desk.plane.has_path(path))
        desk.do("drop a")
        self.refused(desk, "stroke c 0,0 ENE", Blocked("s", ((0, 0), (1, 0), (1, 1))))
        desk.do_all(["unpin s", "stroke c 0,0 ENE"])
        self.assertEqual(desk.plane.line((0, 0), (2, 1)), [(0, 0), (1, 0), (1, 1), (2, 1)])

    def test_the_first_kept_path_blocks(self):
        # Two shapes with the same side and a stroke along it, in the order of pinning.
        lines = ["shape one 0,0 1,1", "shape two 1,1 0,0", "stroke z 0,0 EN"]
        other = "stroke new 0,0 NE"
        for order in (
            ["pin one", "pin two", lines[2]], ["pin two", "pin one", lines[2]],
            ["pin two", lines[2], "pin one"],
        ):
            desk = Desk((1, 1), rising=[0, 1])
            desk.do_all(lines[:2] + order)
            name = order[0].split(" ")[1]
            self.refused(desk, other, Blocked(name, ((0, 0), (0, 1), (1, 1))))
        desk = Desk((1, 1), rising=[0, 1])
        desk.do_all([*lines, "pin one", "pin two"])
        self.refused(desk, other, Blocked("z", ((0, 0), (0, 1), (1, 1))))
        desk.do("drop z")
        self.refused(desk, other, Blocked("one", ((0, 0), (0, 1), (1, 1))))
        # A shape that is pinned anew comes last.
        desk.do_all(["unpin one", "pin one"])
        self.refused(desk, other, Blocked("two", ((0, 0), (0, 1), (1, 1))))
        desk.do_all(["unpin one", "unpin two"])
        self.assertIsNone(desk.do(other))

    def test_the_first_side_blocks(self):
        desk = Desk((2, 2), rising=[0, 1, 2, 3])
        desk.do_all(["shape s 1,1 2,2 0,0", "pin s"])
        self.assertEqual([name for name, path in desk.kept()], ["s"] * 3)
        self.assertEqual(desk.kept()[0][1], ((1, 1), (2, 1), (2, 2)))
        self.refused(desk, "stroke n 1,1 NE", Blocked("s", ((1, 1), (1, 2), (2, 2))))


class KeptTest(DeskCase):
    def test_the_sides_of_a_pinned_shape(self):
        desk = Desk((2, 2))
        desk.do_all(["shape one 1,1", "shape two 2,0 0,0", "shape three 0,0 0,0 2,0", "pin two"])
        row = ((0, 0), (1, 0), (2, 0))
        self.assertEqual(desk.kept(), [("two", row), ("two", row)])
        desk.do_all(["pin one", "pin three"])
        self.assertEqual(desk.kept(), [
            ("two", row), ("two", row), ("one", ((1, 1),)), ("three", ((0, 0),)),
            ("three", row), ("three", row),
        ])
        self.assertEqual(desk.pinned(), ["two", "one", "three"])
        self.assertEqual(desk.strokes(), [])

    def test_equal_strokes_and_points_do_not_conflict(self):
        desk = Desk((2, 2))
        desk.do_all(["stroke a 0,0 EN", "stroke b 0,0 EN", "stroke c 1,0", "stroke d 1,0"])
        self.assertEqual([name for name, path in desk.kept()], ["a", "b", "c", "d"])
        desk.do("drop a")
        self.refused(desk, "stroke e 0,0 NE", Blocked("b", ((0, 0), (0, 1), (1, 1))))

    def test_the_order_in_which_strokes_were_put_and_shapes_were_pinned(self):
        desk = desk_with(LINES)
        self.assertEqual(
            [name for name, path in desk.kept()], ["a", "s", "s", "s", "b", "t"]
        )
        desk.do_all(["drop a", "stroke a 0,0 NEE", "unpin s", "pin s"])
        self.assertEqual(
            [name for name, path in desk.kept()], ["b", "t", "a", "s", "s", "s"]
        )
        self.assertEqual([name for name, path in desk.strokes()], ["b", "a"])
        self.assertEqual(desk.pinned(), ["t", "s"])

    def test_a_stroke_amends_the_plane_and_other_deeds_do_not(self):
        changes = 0
        for board in ((3, 2), (4, 4)):
            for seed in range(12):
                chance = random.Random(seed)
                desk = Desk(board)
                for _ in range(40):
                    line, before = likely_line(desk, chance), desk.plane
                    pictures = {name: desk.picture(name).cells for name, chain in desk.shapes()}
                    pinned = desk.pinned()
                    try:
                        desk.do(line)
                    except PlaneError:
                        self.assertIs(desk.plane, before)
                        continue
                    changed = changed_pairs(before, desk.plane)
                    if line.startswith("stroke"):
                        path = desk.strokes()[-1][1]
                        self.assertEqual(changed, conflicting_pairs(before, [path]))
                        after = amend(before, [path])
                        self.assertEqual(
                            (after.rising, after.falling), (desk.plane.rising, desk.plane.falling)
                        )
                        changes += len(changed)
                    else:
                        self.assertEqual(changed, [])
                    for name, path in desk.kept():
                        self.assertTrue(desk.plane.has_path(path))
                    for name in pinned:
                        self.assertEqual(desk.picture(name).cells, pictures[name])
        self.assertGreater(changes, 50)

    def test_a_picture_stays_only_while_the_shape_is_pinned(self):
        desk = Desk((1, 1), rising=[0, 1])
        desk.do_all(["shape s 0,0 1,1 0,1", "pin s"])
        self.assertEqual(desk.picture("s").cells, ((0, 0),))
        self.refused(desk, "stroke a 0,0 NE", Blocked("s", ((0, 0), (0, 1), (1, 1))))
        desk.do_all(["unpin s", "stroke a 0,0 NE"])
        self.assertEqual(desk.picture("s").cells, ())
        # The dropped stroke leaves the plane as it is.
        desk.do("drop a")
        self.assertEqual(desk.picture("s").cells, ())


class UndoTest(DeskCase):
    def nothing_left(self, desk, ask, error):
        before = told(desk)
        with self.assertRaises(error):
            ask()
        self.assertEqual(told(desk), before)

    def test_nothing_to_undo_and_to_redo(self):
        desk = Desk((1, 1))
        self.nothing_left(desk, desk.undo, NothingToUndo)
        self.nothing_left(desk, desk.redo, NothingToRedo)
        desk.do("wall 0,0")
        self.nothing_left(desk, desk.redo, NothingToRedo)
        self.assertIsNone(desk.undo())
        self.nothing_left(desk, desk.undo, NothingToUndo)
        self.assertIsNone(desk.redo())
        self.nothing_left(desk, desk.redo, NothingToRedo)
        desk.undo()
        desk.do_all(["wall 1,1", "clear 1,1"])
        self.nothing_left(desk, desk.redo, NothingToRedo)
        desk.undo()
        desk.undo()
        self.nothing_left(desk, desk.undo, NothingToUndo)

    def test_everything_is_as_it_was(self):
        desk = Desk((3, 2))
        states = [told(desk)]
        for line in LINES:
            desk.do(line)
            states.append(told(desk))
        for count in range(len(LINES) - 1, -1, -1):
            desk.undo()
            self.assertEqual(self.without_log(told(desk)), self.without_log(states[count]))
            self.assertEqual((desk.done(), desk.undone()), (LINES[:count], LINES[count:]))
        for count in range(1, len(LINES) + 1):
            desk.redo()
            self.assertEqual(self.without_log(told(desk)), self.without_log(states[count]))
            self.assertEqual((desk.done(), desk.undone()), (LINES[:count], LINES[count:]))
        self.assertEqual(told(desk), states[-1])

    def without_log(self, state):
        """A state without what depends on the deeds that were taken back."""
        return {key: state[key] for key in state if key not in ("done", "undone", "text")}

    def test_a_new_deed_removes_what_could_be_done_again(self):
        desk = desk_with(LINES)
        desk.undo()
        desk.undo()
        self.assertEqual(desk.undone(), LINES[-2:])
        desk.do("wall 0,0")
        self.assertEqual((desk.done(), desk.undone()), (LINES[:-2] + ["wall 0,0"], []))
        with self.assertRaises(NothingToRedo):
            desk.redo()
        desk.undo()
        self.assertEqual(desk.undone(), ["wall 0,0"])

    def test_a_refused_deed_leaves_what_can_be_done_again(self):
        desk = desk_with(LINES)
        desk.undo()
        for line in ("no deed", "drop x", "wall 1,1", "place a 0,0", "erase s"):
            with self.assertRaises(PlaneError):
                desk.do(line)
            with self.assertRaises(PlaneError):
                desk.do_all(["wall 0,0", "drop b", line])
            self.assertEqual((desk.done(), desk.undone()), (LINES[:-1], LINES[-1:]))
        desk.redo()
        self.assertEqual(desk.pinned(), ["s", "t"])

    def test_a_name_is_free_again_after_undo(self):
        desk = Desk((2, 2))
        desk.do("stroke a 0,0 EN")
        desk.undo()
        desk.do("stroke a 0,0 NE")
        self.assertEqual(desk.strokes(), [("a", ((0, 0), (0, 1), (1, 1)))])
        self.assertEqual(desk.plane.line((0, 0), (1, 1)), [(0, 0), (0, 1), (1, 1)])


class DoAllTest(DeskCase):
    def test_each_line_is_a_deed_of_its_own(self):
        for given in (LINES, tuple(LINES)):
            desk = Desk((3, 2))
            self.assertIsNone(desk.do_all(given))
            one = Desk((3, 2))
            for line in LINES:
                one.do(line)
            self.assertEqual(told(desk), told(one))
            desk.undo()
            self.assertEqual(desk.done(), LINES[:-1])

    def test_an_empty_list_changes_nothing(self):
        desk = desk_with(LINES)
        desk.undo()
        before = told(desk)
        for given in ([], ()):
            self.assertIsNone(desk.do_all(given))
            self.assertEqual(told(desk), before)
        desk.redo()

    def test_all_or_nothing(self):
        desk = desk_with(LINES)
        desk.undo()
        before = told(desk)
        for bad, error in (
            ("nothing", BadText(1)), ("wall 0,0", NoChange()), ("place a 0,0", NameTaken("a")),
            ("drop z", UnknownName("z")), ("erase s", Pinned("s")),
            ("stroke n 0,0 ENE", Blocked("a", ((0, 0), (1, 0), (1, 1)))),
        ):
            good = ["wall 0,0", "unpin s", "pin s", "drop b", "stroke n 1,2 ES"]
            for lines in (good[:3] + [bad], [good[0], bad, good[1], "nothing", "drop z"]):
                for given in (lines, tuple(lines)):
                    with self.assertRaises(PlaneError) as caught:
                        desk.do_all(given)
                    self.assertIs(type(caught.exception), type(error))
                    self.assertEqual(vars(caught.exception), vars(error))
                    self.assertEqual(told(desk), before)

    def test_a_deed_can_build_on_the_one_before(self):
        desk = Desk((2, 2))
        desk.do_all(["shape s 0,0 1,1", "pin s", "unpin s", "erase s", "place s 0,0", "erase s"])
        self.assertEqual(desk.shapes(), [])
        with self.assertRaises(NoChange):
            desk.do_all(["wall 0,0", "wall 0,0"])
        self.assertEqual(desk.walls(), [])

    def test_the_lines_stay_as_they_were(self):
        lines = list(LINES)
        desk = Desk((3, 2))
        desk.do_all(lines)
        self.assertEqual(lines, LINES)
        before = told(desk)
        lines.clear()
        self.assertEqual(told(desk), before)
        while desk.done():
            desk.undo()
        # What a desk returns may be passed back to it.
        desk.do_all(desk.undone())
        self.assertEqual(told(desk), before)


class QuestionsTest(DeskCase):
    def test_picture(self):
        desk = desk_with(LINES)
        for name, chain in desk.shapes():
            self.assertIsInstance(desk.picture(name), Region)
        self.assertEqual(desk.picture("t").cells, ())
        for name in ("a", "b", "p", "q", "z", ""):
            before = told(desk)
            with self.assertRaises(UnknownName) as caught:
                desk.picture(name)
            self.assertEqual(caught.exception.name, name)
            self.assertEqual(told(desk), before)

    def test_lamp(self):
        desk = Desk((2, 2))
        self.assertIsNone(desk.lamp())
        desk.do_all(["place z 0,0", "place a 1,0"])
        self.assertEqual(desk.lamp(), ("lamp", (0, 0)))
        desk.do("wall 1,0")
        self.assertEqual(desk.lamp(), ("three", ("a", "a", "a")))
        desk.do_all(["clear 1,0", "wall 0,0"])
        self.assertEqual(desk.lamp(), ("three", ("a", "a", "z")))
        desk.do_all(["erase a", "erase z"])
        self.assertIsNone(desk.lamp())

    def test_lamps_of_many_rooms(self):
        kinds = set()
        for seed in range(60):
            chance = random.Random(seed)
            desk = Desk((3, 3))
            corners = board_corners((3, 3))
            walls = chance.sample(corners, seed % 6)
            places = chance.sample([c for c in corners if c not in walls], 2 + seed % 6)
            names = chance.sample("abcdefgh", len(places))
            desk.do_all([f"wall {x},{y}" for x, y in walls])
            desk.do_all([f"place {name} {x},{y}" for name, (x, y) in zip(names, places)])
            found = desk.lamp()
            lit = find_lamp(desk.plane, desk.room(), [c for name, c in sorted(zip(names, places))])
            if lit[0] == "three":
                lit = ("three", tuple(sorted(names)[at] for at in lit[1]))
            self.assertEqual(found, lit)
            kinds.add(found[0])
        self.assertLessEqual({"lamp", "three"}, kinds)

    def test_text(self):
        desk = desk_with(LINES[:3])
        desk.undo()
        self.assertEqual(
            desk.text(),
            "cornerplane\nboard 3 2\nrising 0 3 2 4 1\nfalling 0 3 2 4 1\ndone 2 3\n"
            "stroke a 0,0 NEE\nshape s 0,0 3,0 3,2\nshape t 1,1\n",
        )
        self.assertEqual(
            Desk((0, 0)).text(), "cornerplane\nboard 0 0\nrising\nfalling\ndone 0 0\n"
        )
        slots = list(range(16))
        self.assertEqual(
            Desk((8, 8), rising=slots, falling=tuple(slots[::-1])).text().split("\n")[2:4],
            [
                "rising 0 1 2 3 4 5 6 7 8 9 10 11 12 13 14 15",
                "falling 15 14 13 12 11 10 9 8 7 6 5 4 3 2 1 0",
            ],
        )

    def test_later_changes_change_nothing(self):
        desk = desk_with(LINES)
        desk.undo()
        before = told(desk)
        for ask in (
            desk.done, desk.undone, desk.strokes, desk.kept, desk.shapes, desk.pinned,
            desk.places, desk.walls, desk.room, lambda: desk.visible((0, 0)),
        ):
            result = ask()
            self.assertIsInstance(result, list)
            result.clear()
            self.assertEqual(told(desk), before)


class ManyDeedsTest(DeskCase):
    def check(self, desk, rankings, done, undone):
        model = replayed(desk.board, *rankings, done)
        self.assertEqual(told(desk), expected(model, done, undone))

    def run_deeds(self, board, seed, count):
        chance = random.Random(seed)
        rankings = some_rankings(board, seed) if seed % 2 else (None, None)
        desk = Desk(board, rising=rankings[0], falling=rankings[1])
        done, undone = [], []
        errors = {}
        for _ in range(count):
            kind = chance.choice(["do"] * 6 + ["undo", "undo", "redo", "all"])
            lines = [likely_line(desk, chance) for _ in range(3 if kind == "all" else 1)]
            try:
                if kind == "undo":
                    desk.undo()
                    undone.insert(0, done.pop())
                elif kind == "redo":
                    desk.redo()
                    done.append(undone.pop(0))
                else:
                    self.do_beside_model(desk, rankings, done, lines)
                    done += lines
                    undone = []
            except PlaneError as error:
                errors[type(error)] = errors.get(type(error), 0) + 1
                self.assertTrue(kind != "undo" or not done)
                self.assertTrue(kind != "redo" or not undone)
            self.check(desk, rankings, done, undone)
        return desk, errors

    def do_beside_model(self, desk, rankings, done, lines):
        model, refusal = replayed(desk.board, *rankings, done), None
        try:
            for line in lines:
                model.do(line)
        except PlaneError as error:
            refusal = error
        try:
            desk.do_all(lines) if len(lines) > 1 else desk.do(lines[0])
        except PlaneError as error:
            self.assertIs(type(error), type(refusal))
            self.assertEqual(vars(error), vars(refusal))
            raise
        self.assertIsNone(refusal)

    def test_small_boards(self):
        met = {}
        for board in BOARDS + [(4, 4)]:
            for seed in range(8):
                _, errors = self.run_deeds(board, seed, 60)
                for kind in errors:
                    met[kind] = met.get(kind, 0) + errors[kind]
        for kind in (
            NameTaken, UnknownName, Pinned, NoChange, Blocked, NothingToUndo, NothingToRedo,
        ):
            self.assertGreater(met.get(kind, 0), 3, kind)

    def test_the_largest_board(self):
        desk, _ = self.run_deeds((8, 8), 3, 40)
        self.assertGreater(len(desk.done()), 5)

    def test_the_same_deeds_give_the_same_desk(self):
        for board in ((3, 2), (8, 8)):
            chance = random.Random(5)
            desk = Desk(board)
            for _ in range(60):
                try:
                    desk.do(likely_line(desk, chance))
                except PlaneError:
                    continue
                if chance.random() < 0.2:
                    desk.undo()
            other = Desk(board)
            other.do_all(desk.done())
            alike = {key: value for key, value in told(desk).items() if key != "undone"}
            if desk.undone():
                alike.pop("text")
            self.assertEqual({key: told(other)[key] for key in alike}, alike)

    def test_two_desks_share_nothing(self):
        one, other = Desk((2, 2)), Desk((2, 2))
        before = told(other)
        one.do_all(["wall 0,0", "stroke a 0,0 NE", "shape s 1,1", "place p 0,0"])
        self.assertEqual(told(other), before)


if __name__ == "__main__":
    unittest.main()
