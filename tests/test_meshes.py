"""Points 51 and 54 and the interface of cornerplane/meshes.py."""

import random
import unittest

from cornerplane.errors import NotOnPath
from cornerplane.meshes import insert_corner, mesh_fault, same_rim
from cornerplane.planes import Plane
from cornerplane.triangles import fan
from cornerplane.windings import closed_walk, net_steps, total_windings, windings
from tests.oracles import board_corners
from tests.samples import some_chain, some_plane

BOARDS = [(1, 1), (2, 1), (3, 2), (8, 8), (0, 3), (3, 0), (0, 0)]
PLANE = Plane((2, 1), "EEN", "SSE")
WHOLE = [(0, 0), (2, 0), (2, 1), (0, 1)]
LEFT = [(0, 0), (1, 0), (1, 1), (0, 1)]
RIGHT = [(1, 0), (2, 0), (2, 1), (1, 1)]


class InsertCornerTest(unittest.TestCase):
    def test_behind_the_corner_at_the_index(self):
        self.assertEqual(
            insert_corner(PLANE, WHOLE, 0, (1, 0)), [(0, 0), (1, 0), (2, 0), (2, 1), (0, 1)]
        )
        self.assertEqual(
            insert_corner(PLANE, WHOLE, 2, (1, 1)), [(0, 0), (2, 0), (2, 1), (1, 1), (0, 1)]
        )
        self.assertEqual(insert_corner(PLANE, WHOLE, 3, (0, 0)), WHOLE + [(0, 0)])
        self.assertEqual(insert_corner(PLANE, [(1, 1)], 0, (1, 1)), [(1, 1), (1, 1)])
        self.assertEqual(
            insert_corner(PLANE, ((0, 0), (2, 1)), 1, (1, 1)), [(0, 0), (2, 1), (1, 1)]
        )

    def test_every_corner_and_every_side(self):
        refused = 0
        for board in BOARDS:
            for seed in range(3):
                plane = some_plane(board, seed)
                chain = some_chain(board, seed, 1 + 2 * seed)
                walk = closed_walk(plane, chain)
                for index, start in enumerate(chain):
                    side = plane.line(start, chain[(index + 1) % len(chain)])
                    for corner in board_corners(board):
                        if corner not in side:
                            refused += 1
                            self.refused(plane, chain, index, corner)
                            continue
                        expected = list(chain)
                        expected.insert(index + 1, corner)
                        for given in (list(chain), tuple(chain)):
                            longer = insert_corner(plane, given, index, corner)
                            self.assertEqual(longer, expected)
                            self.assertIsInstance(longer, list)
                        self.assertEqual(closed_walk(plane, longer), walk)
                        self.assertEqual(windings(plane, longer), windings(plane, chain))
        self.assertGreater(refused, 100)

    def refused(self, plane, chain, index, corner):
        with self.assertRaises(NotOnPath) as caught:
            insert_corner(plane, chain, index, corner)
        self.assertEqual(caught.exception.corner, corner)

    def test_a_corner_of_another_side_is_refused(self):
        self.refused(PLANE, WHOLE, 0, (1, 1))
        self.refused(PLANE, WHOLE, 3, (1, 0))
        self.refused(PLANE, tuple(WHOLE), 1, (0, 0))
        self.refused(PLANE, [(1, 1)], 0, (0, 0))


class SameRimTest(unittest.TestCase):
    def test_small_lists(self):
        self.assertIs(same_rim(PLANE, [LEFT, RIGHT], [WHOLE]), True)
        self.assertIs(same_rim(PLANE, ([*LEFT],), ([*RIGHT],)), False)
        self.assertIs(same_rim(PLANE, [LEFT], [LEFT, LEFT]), False)
        self.assertIs(same_rim(PLANE, [LEFT], [LEFT[::-1]]), False)
        self.assertIs(same_rim(PLANE, [LEFT], [LEFT[1:] + LEFT[:1]]), True)
        self.assertIs(same_rim(PLANE, [], []), True)
        self.assertIs(same_rim(PLANE, [], [[(0, 0)], [(0, 0), (2, 1)]]), True)
        self.assertIs(same_rim(PLANE, [LEFT, LEFT[::-1]], ()), True)
        self.assertIs(same_rim(PLANE, [], [LEFT]), False)

    def test_exactly_if_the_total_windings_are_equal(self):
        chance = random.Random(1)
        answers = []
        for seed in range(60):
            plane = some_plane((2, 2), seed)
            chains = [some_chain((2, 2), seed + k, 3) for k in range(2)]
            others = [some_chain((2, 2), seed + 90 + k, 3) for k in range(chance.randrange(3))]
            if seed % 3 == 0:
                others = [list(part) for chain in chains for part in fan((1, 1), chain)]
            same = total_windings(plane, chains) == total_windings(plane, others)
            self.assertIs(same_rim(plane, chains, others), same)
            self.assertIs(net_steps(plane, chains) == net_steps(plane, others), same)
            answers.append(same)
        self.assertEqual(set(answers), {True, False})


class MeshFaultTest(unittest.TestCase):
    def test_small_meshes(self):
        self.assertIsNone(mesh_fault(PLANE, [LEFT, RIGHT], WHOLE))
        self.assertIsNone(mesh_fault(PLANE, (tuple(RIGHT), tuple(LEFT)), tuple(WHOLE)))
        self.assertEqual(mesh_fault(PLANE, [LEFT], WHOLE), (1, 0))
        self.assertEqual(mesh_fault(PLANE, [RIGHT], WHOLE), (0, 0))
        self.assertEqual(mesh_fault(PLANE, [], WHOLE), (0, 0))
        self.assertEqual(mesh_fault(PLANE, [LEFT, RIGHT, RIGHT], WHOLE), (1, 0))
        self.assertEqual(mesh_fault(PLANE, [LEFT, RIGHT[::-1]], WHOLE), (1, 0))
        self.assertEqual(mesh_fault(PLANE, [WHOLE], [(0, 0)]), (0, 0))
        self.assertIsNone(mesh_fault(PLANE, [], [(0, 0), (2, 1)]))

    def test_a_corner_of_a_face_on_a_side_of_another(self):
        plane = some_plane((2, 2), 3)
        low = [(0, 0), (2, 0), (2, 1), (0, 1)]
        faces = [low, [(0, 1), (1, 1), (1, 2), (0, 2)], [(1, 1), (2, 1), (2, 2), (1, 2)]]
        outline = [(0, 0), (2, 0), (2, 2), (0, 2)]
        self.assertIsNone(mesh_fault(plane, faces, outline))
        self.assertEqual(mesh_fault(plane, faces[:1] + faces[2:], outline), (0, 1))

    def test_some_fans(self):
        for board in BOARDS:
            for seed in range(8):
                plane = some_plane(board, seed)
                outline = some_chain(board, seed, 1 + seed)
                faces = [list(part) for part in fan(some_chain(board, seed, 1)[0], outline)]
                self.assertIsNone(mesh_fault(plane, faces, outline))
                for index in range(len(faces)):
                    left = faces[:index] + faces[index + 1:]
                    gone = windings(plane, faces[index])
                    expected = gone[0][0] if gone else None
                    self.assertEqual(mesh_fault(plane, left, outline), expected)


class ArgumentsTest(unittest.TestCase):
    def test_arguments_stay_as_they_were_and_results_are_new(self):
        chain = list(WHOLE)
        faces = [list(LEFT), list(RIGHT)]
        longer = insert_corner(PLANE, chain, 0, (1, 0))
        longer.clear()
        self.assertEqual(len(insert_corner(PLANE, chain, 0, (1, 0))), 5)
        same_rim(PLANE, faces, [chain])
        mesh_fault(PLANE, faces, chain)
        self.assertEqual((chain, faces), (WHOLE, [LEFT, RIGHT]))


if __name__ == "__main__":
    unittest.main()
