"""Points 13 to 15 and the interface of cornerplane/strokes.py."""

import random
import unittest

from cornerplane.conflicts import find_conflict
from cornerplane.errors import NoStroke, NothingToUndo
from cornerplane.strokes import Sheet, compatible, find_conflicts, keep_in_order
from tests.oracles import in_conflict, paths_of

EAST = ((0, 0), (1, 0), (1, 1))
NORTH = ((0, 0), (0, 1), (1, 1))
DOWN = ((0, 1), (1, 1), (1, 0))
POINT = ((1, 1),)
ROW = ((0, 0), (1, 0), (2, 0))
PATHS = paths_of((3, 2))
CERTIFICATE = ((0, 0), (1, 0), (1, 1))


def some_strokes(seed, count):
    return random.Random(seed).choices(PATHS, k=count)


class FindConflictsTest(unittest.TestCase):
    def test_no_strokes_and_one(self):
        self.assertEqual(find_conflicts([]), [])
        self.assertEqual(find_conflicts([EAST]), [])
        self.assertIs(compatible([]), True)
        self.assertIs(compatible([EAST]), True)

    def test_two_strokes_in_conflict(self):
        self.assertEqual(find_conflicts([EAST, NORTH]), [(0, 1, CERTIFICATE)])
        self.assertEqual(find_conflicts([NORTH, EAST]), [(0, 1, ((0, 0), (0, 1), (1, 1)))])
        self.assertIs(compatible([EAST, NORTH]), False)

    def test_equal_strokes_points_and_straight_strokes_never_conflict(self):
        strokes = [EAST, EAST, POINT, ROW, POINT, ROW, DOWN, DOWN, EAST]
        self.assertEqual(find_conflicts(strokes), [])
        self.assertIs(compatible(strokes), True)

    def test_straight_strokes_and_points_conflict_with_no_path(self):
        for still in PATHS:
            if still[0][0] == still[-1][0] or still[0][1] == still[-1][1]:
                self.assertEqual([path for path in PATHS if not compatible([still, path])], [])

    def test_all_conflicts_ascending(self):
        for seed in range(30):
            strokes = some_strokes(seed, 40)
            expected = [
                (i, j, find_conflict(strokes[i], strokes[j]))
                for i in range(40) for j in range(i + 1, 40)
                if in_conflict(strokes[i], strokes[j])
            ]
            self.assertEqual(find_conflicts(strokes), expected)
            self.assertEqual(find_conflicts(tuple(strokes)), expected)
            self.assertIs(compatible(tuple(strokes)), expected == [])

    def test_no_list_is_refused_for_its_length(self):
        self.assertIs(compatible([POINT] * 60), True)
        self.assertEqual(len(find_conflicts([EAST] * 30 + [NORTH] * 30)), 900)


class KeepInOrderTest(unittest.TestCase):
    def test_no_strokes(self):
        self.assertEqual(keep_in_order([]), ([], []))

    def test_the_first_stroke_wins(self):
        self.assertEqual(
            keep_in_order([NORTH, EAST, NORTH, EAST]),
            ([0, 2], [(1, 0, CERTIFICATE), (3, 0, CERTIFICATE)]),
        )

    def test_a_stroke_that_is_not_kept_keeps_none_away(self):
        long_east = ((0, 0), (1, 0), (2, 0), (2, 1))
        corner = ((1, 0), (1, 1), (2, 1))
        self.assertIsNone(find_conflict(NORTH, corner))
        self.assertIsNotNone(find_conflict(long_east, corner))
        self.assertEqual(
            keep_in_order([NORTH, EAST, corner, long_east]),
            ([0, 2], [(1, 0, CERTIFICATE), (3, 2, find_conflict(long_east, corner))]),
        )

    def test_the_least_kept_index_is_reported(self):
        for seed in range(40):
            strokes = some_strokes(seed, 40)
            kept, refused = [], []
            for index, stroke in enumerate(strokes):
                against = [k for k in kept if in_conflict(stroke, strokes[k])]
                if against:
                    refused.append((index, against[0], find_conflict(stroke, strokes[against[0]])))
                else:
                    kept.append(index)
            self.assertEqual(keep_in_order(strokes), (kept, refused))
            self.assertEqual(keep_in_order(tuple(strokes)), (kept, refused))

    def test_the_kinds_of_the_result(self):
        result = keep_in_order((EAST, NORTH))
        self.assertIsInstance(result, tuple)
        self.assertEqual([list, list], [part.__class__ for part in result])


class ArgumentsTest(unittest.TestCase):
    def test_arguments_stay_as_they_were_and_results_are_new(self):
        for ask in (find_conflicts, compatible, keep_in_order):
            strokes = [NORTH, EAST, ROW]
            first = ask(strokes)
            self.assertEqual(strokes, [NORTH, EAST, ROW])
            if ask is find_conflicts:
                first.clear()
            if ask is keep_in_order:
                first[0].clear()
                first[1].clear()
            self.assertEqual(ask(strokes), ask((NORTH, EAST, ROW)))
        self.assertEqual(find_conflicts([EAST, NORTH]), [(0, 1, CERTIFICATE)])
        self.assertEqual(keep_in_order([NORTH, EAST]), ([0], [(1, 0, CERTIFICATE)]))


class SheetTest(unittest.TestCase):
    def seen(self, sheet):
        return (sheet.strokes(), sheet.conflicts(), list(sheet), len(sheet))

    def test_an_empty_sheet(self):
        sheet = Sheet()
        self.assertEqual(self.seen(sheet), ([], [], [], 0))
        self.assertNotIn(EAST, sheet)

    def test_put_numbers_and_conflicts(self):
        sheet = Sheet()
        self.assertEqual([sheet.put(path) for path in (EAST, ROW, NORTH, EAST)], [0, 1, 2, 3])
        self.assertEqual(sheet.strokes(), [(0, EAST), (1, ROW), (2, NORTH), (3, EAST)])
        self.assertEqual(
            sheet.conflicts(), [(0, 2, CERTIFICATE), (2, 3, ((0, 0), (0, 1), (1, 1)))]
        )
        self.assertEqual(list(sheet), [EAST, ROW, NORTH, EAST])
        self.assertEqual(len(sheet), 4)
        self.assertIn(NORTH, sheet)
        self.assertNotIn(DOWN, sheet)
        self.assertNotIn(((0, 0), (1, 0)), sheet)

    def test_drop(self):
        sheet = Sheet()
        for path in (EAST, NORTH, EAST):
            sheet.put(path)
        self.assertIsNone(sheet.drop(0))
        self.assertEqual(sheet.strokes(), [(1, NORTH), (2, EAST)])
        self.assertEqual(sheet.conflicts(), [(1, 2, ((0, 0), (0, 1), (1, 1)))])
        self.assertIn(EAST, sheet)
        sheet.drop(2)
        self.assertNotIn(EAST, sheet)
        self.assertEqual(sheet.conflicts(), [])

    def test_a_number_is_not_used_again_after_a_drop(self):
        sheet = Sheet()
        sheet.put(EAST)
        sheet.put(ROW)
        sheet.drop(1)
        self.assertEqual(sheet.put(NORTH), 2)
        sheet.drop(0)
        sheet.drop(2)
        self.assertEqual(len(sheet), 0)
        self.assertEqual(sheet.put(NORTH), 3)

    def test_a_put_that_is_taken_back_gives_its_number_to_the_next(self):
        sheet = Sheet()
        sheet.put(EAST)
        self.assertEqual(sheet.put(NORTH), 1)
        self.assertIsNone(sheet.undo())
        self.assertEqual(self.seen(sheet), ([(0, EAST)], [], [EAST], 1))
        self.assertEqual(sheet.put(ROW), 1)
        self.assertEqual(sheet.strokes(), [(0, EAST), (1, ROW)])
        sheet.undo()
        sheet.undo()
        self.assertEqual(sheet.put(DOWN), 0)

    def test_a_drop_that_is_taken_back_returns_the_old_number_and_order(self):
        sheet = Sheet()
        for path in (EAST, NORTH, ROW):
            sheet.put(path)
        before = self.seen(sheet)
        sheet.drop(0)
        sheet.undo()
        self.assertEqual(self.seen(sheet), before)
        self.assertEqual(sheet.put(EAST), 3)

    def test_undo_goes_back_through_puts_and_drops(self):
        sheet = Sheet()
        states = [self.seen(sheet)]
        for deed in (
            lambda: sheet.put(EAST), lambda: sheet.put(NORTH), lambda: sheet.drop(0),
            lambda: sheet.put(EAST), lambda: sheet.drop(1), lambda: sheet.put(DOWN),
        ):
            deed()
            states.append(self.seen(sheet))
        for state in reversed(states[:-1]):
            sheet.undo()
            self.assertEqual(self.seen(sheet), state)
        with self.assertRaises(NothingToUndo):
            sheet.undo()

    def test_undo_with_nothing_to_take_back(self):
        sheet = Sheet()
        with self.assertRaises(NothingToUndo):
            sheet.undo()
        self.assertEqual(sheet.put(EAST), 0)

    def test_a_refused_drop_changes_nothing(self):
        sheet = Sheet()
        sheet.put(EAST)
        sheet.put(NORTH)
        sheet.drop(0)
        before = self.seen(sheet)
        for number in (0, 2, -1, 10 ** 30):
            with self.assertRaises(NoStroke) as caught:
                sheet.drop(number)
            self.assertEqual(caught.exception.number, number)
            self.assertEqual(self.seen(sheet), before)
        sheet.undo()
        self.assertEqual(sheet.strokes(), [(0, EAST), (1, NORTH)])
        self.assertEqual(sheet.conflicts(), [(0, 1, CERTIFICATE)])

    def test_a_change_to_a_result_changes_no_later_answer(self):
        sheet = Sheet()
        sheet.put(EAST)
        sheet.put(NORTH)
        before = self.seen(sheet)
        sheet.strokes().clear()
        sheet.conflicts().clear()
        list(sheet).clear()
        self.assertEqual(self.seen(sheet), before)

    def test_a_sheet_can_be_changed_while_it_is_iterated(self):
        sheet = Sheet()
        for path in (EAST, NORTH, ROW):
            sheet.put(path)
        met = []
        for path in sheet:
            met.append(path)
            sheet.put(DOWN)
        self.assertEqual(met, [EAST, NORTH, ROW])
        self.assertEqual(len(sheet), 6)

    def test_two_sheets_do_not_share_strokes(self):
        one, two = Sheet(), Sheet()
        one.put(EAST)
        self.assertEqual(len(two), 0)
        self.assertEqual(two.put(NORTH), 0)

    def test_many_deeds_against_a_plain_model(self):
        for seed in range(20):
            chance = random.Random(seed)
            sheet = Sheet()
            model, number, past = {}, 0, []
            for _ in range(60):
                deed = chance.choice(("put", "put", "drop", "undo"))
                if deed == "put":
                    past.append((dict(model), number))
                    path = chance.choice(PATHS)
                    self.assertEqual(sheet.put(path), number)
                    model[number] = path
                    number += 1
                elif deed == "drop" and model:
                    past.append((dict(model), number))
                    gone = chance.choice(sorted(model))
                    sheet.drop(gone)
                    del model[gone]
                elif deed == "undo" and past:
                    sheet.undo()
                    model, number = past.pop()
                expected = [
                    (i, j, find_conflict(model[i], model[j]))
                    for i in sorted(model) for j in sorted(model)
                    if i < j and in_conflict(model[i], model[j])
                ]
                self.assertEqual(sheet.strokes(), sorted(model.items()))
                self.assertEqual(sheet.conflicts(), expected)
                self.assertEqual(list(sheet), [model[k] for k in sorted(model)])

    def test_the_methods_are_defined_in_the_class(self):
        for name in (
            "put", "drop", "undo", "strokes", "conflicts", "__iter__", "__len__", "__contains__",
        ):
            self.assertIn(name, vars(Sheet))


if __name__ == "__main__":
    unittest.main()
